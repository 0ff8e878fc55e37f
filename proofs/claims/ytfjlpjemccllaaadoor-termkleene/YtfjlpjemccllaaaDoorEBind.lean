/-
  What is proved here: what bind answers.
-/
import Derived.Test.YtfjlpjemccllaaaDoorQTBD
import Derived.Test.YtfjlpjemccllaaaDoorQTAO
import Derived.Deep.RegionHeld3
import Derived.Deep.CutBlock
namespace Go.Proofs.YtfjlpjemccllaaaDoor
open Go.RowKit
set_option linter.unusedVariables false

/-- What bind hands back. -/
def BindEnd (R : Int × List (ByteArray × ThR)) (e : Ending) (w' : World) : Prop := (R.1 ≠ 0 ∧ e = .returned (.tuple #[.map none, .int .i64 R.1])) ∨ (R.1 = 0 ∧ ∃ r, e = .returned (.tuple #[.map (some r), .int .i64 0]) ∧ w'.heap[r]? = some (.map (entsFrom R.2 0).toArray R.2.length))

theorem make_names (w : World) : (Instr.makeMap 45 none).run Tryd.prog w = .ok (.map (some w.heap.size)) (w.alloc (.map #[] 0)) := by kernel_rfl

set_option maxHeartbeats 4000000 in
set_option maxRecDepth 100000 in
theorem bind_any (w0 w : World) (N : List Nd) (E : List Ed) (na : Option Addr) (nl nc : Nat) (ea : Option Addr) (el ec : Nat) (next : Int) (S : List ByteArray) (sa : Option Addr) (sl sc : Nat) (I : List Int) (ia : Option Addr) (il ic : Nat) (hw : Below w0.heap.size w0 w) (hN : NodesAt w0 N na nl) (hE : EdgesAt w0 E ea el) (h60 : nl ≤ 60) (e60 : el ≤ 60) (hrN : Rise (N.map Nd.id)) (hrE : Rise (E.map Ed.id)) (hS : StrsAt w0 S sa sl) (hI : IntsAt w0 I ia il) (hsi : il = sl) : Calls Tryd.prog 13 #[.agg #[.slice na nl nc, .slice ea el ec, .int .i64 next], .slice sa sl sc, .slice ia il ic] w fun e w' => BindEnd (bindF N E S I []) e w' ∧ Below w.heap.size w w' := by
  obtain ⟨BR, hBR⟩ : ∃ z, z = bindF N E S I [] := ⟨_, rfl⟩
  rw [← hBR]
  have HC : Hid (∀ (id : Int) (W : World), Below w0.heap.size w0 W → Calls Tryd.prog 26 #[.agg #[.slice na nl nc, .slice ea el ec, .int .i64 next], .int .i64 id] W fun e w' => e = .returned (.tuple #[((thingF N E id).getD ThR.zero).val, .bool (thingF N E id).isSome]) ∧ Below W.heap.size W w') := fun id W k => thing_any w0 W N E na nl nc ea el ec next id k hN hE h60 e60 hrN hrE
  subst hsi
  have hb2 : Below w.heap.size w ((w.alloc (.cells #[.slice na nl nc, .slice ea el ec, .int .i64 next] 25)).alloc (.map #[] 0)) := ((Below.refl _ _).alloc (Nat.le_refl _) _).alloc (by simp) _
  have h0 := alloc_two w (.cells #[.slice na nl nc, .slice ea el ec, .int .i64 next] 25) (.map #[] 0)
  have h1 : ((w.alloc (.cells #[.slice na nl nc, .slice ea el ec, .int .i64 next] 25)).alloc (.map #[] 0)).heap[w.heap.size]? = some (.cells #[.slice na nl nc, .slice ea el ec, .int .i64 next] 25 (0, 0)) := by
    have hb : Below (w.heap.size + 1) (w.alloc (.cells #[.slice na nl nc, .slice ea el ec, .int .i64 next] 25)) ((w.alloc (.cells #[.slice na nl nc, .slice ea el ec, .int .i64 next] 25)).alloc (.map #[] 0)) := (Below.refl _ _).alloc (by simp) _
    exact (hb.block w.heap.size (by omega)).trans (alloc_new w (.cells #[.slice na nl nc, .slice ea el ec, .int .i64 next] 25))
  have hz : ((w.alloc (.cells #[.slice na nl nc, .slice ea el ec, .int .i64 next] 25)).alloc (.map #[] 0)).heap.size = w.heap.size + 2 := by simp
  have HZ := toHid hz
  have HB := toHid hb2
  have H0 := toHid h0
  have H1 := toHid h1
  have HW := toHid hw
  have HSA := toHid hS
  have HIA := toHid hI
  have HBR : Hid (BR = bindF N E (S.drop 0) (I.drop 0) []) := hBR
  have hsm := hS.2.1
  have hmk := make_names (w.alloc (.cells #[.slice na nl nc, .slice ea el ec, .int .i64 next] 25))
  clear hb2 h0 h1 hz hw hN hE hrN hrE hS hI hBR h60 e60
  go_enter Tryd.func13, Tryd.ntmps13
  go_wp2_with fail
  clear hmk
  generalize (w.alloc (.cells #[.slice na nl nc, .slice ea el ec, .int .i64 next] 25)).alloc (.map #[] 0) = W at HB H0 H1 HZ ⊢
  go_loopg [18] il (fun q s18 wr => ∃ (i : Nat) (l : List (ByteArray × ThR)), i ≤ il ∧ il - i ≤ q ∧ s18 = .int .i64 i ∧ wr.heap[w.heap.size + 1]? = some (.map (entsFrom l 0).toArray l.length) ∧ Below (w.heap.size + 1) W wr ∧ BR = bindF N E (S.drop i) (I.drop i) l)
  case atStart => exact ⟨0, [], Nat.zero_le _, by omega, rfl, H0.out, Below.refl _ _, HBR.out⟩
  case round =>
    clear HBR
    obtain ⟨i, l, hi, hg, rfl, hmap, hbw, hbr⟩ := hrel
    have HMP := toHid hmap
    have HBR := toHid hbr
    have hzw : w.heap.size + 2 ≤ wr.heap.size := by have := hbw.size; rw [HZ.out] at this; exact this
    have hw0 : Below w.heap.size w wr := HB.out.trans (hbw.mono (by omega))
    have hw00 : Below w0.heap.size w0 wr := HW.out.trans (hw0.mono HW.out.size)
    clear hmap hbr
    by_cases hlt : i < il
    · obtain ⟨b, off, ha, hbl, hcs⟩ := HSA.out.2.2 (by omega)
      obtain ⟨b2, off2, ha2, hbl2, hcs2⟩ := HIA.out.2.2 (by omega)
      have hsl : i < S.length := by rw [← HSA.out.1]; exact hlt
      have hil2 : i < I.length := by rw [← HIA.out.1]; exact hlt
      obtain ⟨s, hs⟩ : ∃ s, S[i]? = some s := ⟨S[i], List.getElem?_eq_getElem hsl⟩
      obtain ⟨id, hid⟩ : ∃ s, I[i]? = some s := ⟨I[i], List.getElem?_eq_getElem hil2⟩
      obtain ⟨hss, e0⟩ := hcs i s hs
      have e2 := hcs2 i id hid
      have hds : S.drop i = s :: S.drop (i + 1) := by
        rw [List.drop_eq_getElem_cons hsl]
        congr 1
        rw [List.getElem?_eq_getElem hsl] at hs
        exact Option.some.inj hs
      have hdi : I.drop i = id :: I.drop (i + 1) := by
        rw [List.drop_eq_getElem_cons hil2]
        congr 1
        rw [List.getElem?_eq_getElem hil2] at hid
        exact Option.some.inj hid
      have HDS := toHid hds
      have HDI := toHid hdi
      subst ha ha2
      have d0 : wr.cell? ⟨b, off + i, none⟩ = some (.string s) := (hw00.cell (p := ⟨b, off + i, none⟩) hbl).trans e0
      have HE2 := toHid e2
      have hbW : b < wr.heap.size := Nat.lt_of_lt_of_le hbl hw00.size
      have hil : (i : Int) < il := by omega
      have r1 := run_lookup_str (P := Tryd.prog) (w := wr) Tryd.underlying45 Tryd.underlying9 HMP.out (by simpa using ents_keys l 0) s (zero_thing wr) true
      rw [List.toList_toArray, ents_find] at r1
      clear hcs hcs2 hs hid e0 e2 hds hdi hsl hil2
      cases hf : l.find? (fun p => s == p.1) with
      | some p =>
        rw [hf] at r1
        obtain ⟨ps, xr⟩ := p
        have r2 : (Instr.lookup 45 (.map (some (w.heap.size + 1))) (.string s) true).run Tryd.prog wr = .ok (.tuple #[.agg #[.bool xr.edge, .int .i64 xr.id, .string xr.typ, .slice xr.pa xr.pl xr.pc], .bool true]) wr := r1
        have HRR : Hid (BR = (7, [])) := by
          show BR = _
          rw [HBR.out, HDS.out]
          unfold bindF
          rw [hf]
          rfl
        have HBX := toHid (show Below w.heap.size w (wr.alloc (.cells #[.bool xr.edge, .int .i64 xr.id, .string xr.typ, .slice xr.pa xr.pl xr.pc] 66)) from hw0.alloc hw0.size _)
        clear r1 hbw hw0 hw00 hf
        go_wp2_with fail
        exact bodyPost_ret (v := .tuple #[.map none, .int .i64 7]) (by simp [results, Tryd.results13, go_sem]) rfl ⟨.inl ⟨by rw [HRR.out]; decide, by rw [HRR.out]⟩, HBX.out⟩
      | none =>
        rw [hf] at r1
        have r2 : (Instr.lookup 45 (.map (some (w.heap.size + 1))) (.string s) true).run Tryd.prog wr = .ok (.tuple #[.agg #[.bool false, .int .i64 0, .string ⟨#[]⟩, .slice none 0 0], .bool false]) wr := r1
        obtain ⟨th, hth⟩ : ∃ z, z = thingF N E id := ⟨_, rfl⟩
        obtain ⟨xr, hxr⟩ : ∃ z, z = th.getD ThR.zero := ⟨_, rfl⟩
        obtain ⟨ok, hok⟩ : ∃ z, z = th.isSome := ⟨_, rfl⟩
        have HCI : Hid (∀ W, Below w0.heap.size w0 W → Calls Tryd.prog 26 #[.agg #[.slice na nl nc, .slice ea el ec, .int .i64 next], .int .i64 id] W fun e w' => e = .returned (.tuple #[.agg #[.bool xr.edge, .int .i64 xr.id, .string xr.typ, .slice xr.pa xr.pl xr.pc], .bool ok]) ∧ Below W.heap.size W w') := fun W k => by
          have := HC.out id W k
          rw [← hth, ← hxr, ← hok] at this
          exact this
        have HTH := toHid hth
        have HXR := toHid hxr
        have HOK := toHid hok
        have HF := toHid hf
        have HWX : Hid (Below wr.heap.size wr (wr.alloc (.cells #[.bool false, .int .i64 0, .string ⟨#[]⟩, .slice none 0 0] 66))) := (Below.refl _ _).alloc (Nat.le_refl _) _
        have HMX : Hid ((wr.alloc (.cells #[.bool false, .int .i64 0, .string ⟨#[]⟩, .slice none 0 0] 66)).heap[w.heap.size + 1]? = _) := (HWX.out.block (w.heap.size + 1) (by omega)).trans HMP.out
        have HBX : Hid (Below (w.heap.size + 1) W (wr.alloc (.cells #[.bool false, .int .i64 0, .string ⟨#[]⟩, .slice none 0 0] 66))) := hbw.alloc (by omega) _
        have HW0 : Hid (Below w0.heap.size w0 (wr.alloc (.cells #[.bool false, .int .i64 0, .string ⟨#[]⟩, .slice none 0 0] 66))) := hw00.alloc hw00.size _
        have HWW : Hid (Below w.heap.size w (wr.alloc (.cells #[.bool false, .int .i64 0, .string ⟨#[]⟩, .slice none 0 0] 66))) := hw0.alloc hw0.size _
        have hzX : (wr.alloc (.cells #[.bool false, .int .i64 0, .string ⟨#[]⟩, .slice none 0 0] 66)).heap.size = wr.heap.size + 1 := by simp
        have HZX := toHid hzX
        clear r1 hth hxr hok hf hbw hw0 hw00 hzX HC
        go_upto_region 8 with fail
        clear r2 d0
        generalize wr.alloc (.cells #[.bool false, .int .i64 0, .string ⟨#[]⟩, .slice none 0 0] 66) = WX at HWX HMX HBX HW0 HWW HZX ⊢
        have HS : Hid (∀ W', Below WX.heap.size WX W' → (W'.cell? ⟨b2, off2 + i, none⟩ = some (.int .i64 id)) ∧ (W'.cell? ⟨w.heap.size, 0, none⟩ = some (.slice na nl nc) ∧ W'.cell? ⟨w.heap.size, 1, none⟩ = some (.slice ea el ec) ∧ W'.cell? ⟨w.heap.size, 2, none⟩ = some (.int .i64 next))) := fun W' kk => by
          have q := (kk.block w.heap.size (by rw [HZX.out]; omega)).trans ((HBX.out.block w.heap.size (by omega)).trans H1.out)
          have q0 := cell_of q 0
          have q1 := cell_of q 1
          have q2 := cell_of q 2
          simp at q0 q1 q2
          exact ⟨((HW0.out.trans (kk.mono HW0.out.size)).cell (p := ⟨b2, off2 + i, none⟩) hbl2).trans HE2.out, q0, q1, q2⟩
        have D0 : Below WX.heap.size WX WX.drew := (Below.refl _ _).drew
        obtain ⟨y0, y1, y2, y3⟩ := HS.out WX (Below.refl _ _)
        have hb2W : b2 < WX.heap.size := Nat.lt_of_lt_of_le hbl2 HW0.out.size
        have hwW : w.heap.size < WX.heap.size := by rw [HZX.out]; omega
        have HST : Hid (∀ u, Below WX.heap.size WX u → ∀ v0 v1 v2 v3 : Value, (((((u.setCell ⟨WX.heap.size, 0, none⟩ v0).setCell ⟨WX.heap.size, 1, none⟩ v1).setCell ⟨WX.heap.size, 2, none⟩ v2).setCell ⟨WX.heap.size, 3, none⟩ v3).cell? ⟨b2, off2 + i, none⟩ = some (.int .i64 id)) ∧ (((((u.setCell ⟨WX.heap.size, 0, none⟩ v0).setCell ⟨WX.heap.size, 1, none⟩ v1).setCell ⟨WX.heap.size, 2, none⟩ v2).setCell ⟨WX.heap.size, 3, none⟩ v3).cell? ⟨w.heap.size, 0, none⟩ = some (.slice na nl nc) ∧ ((((u.setCell ⟨WX.heap.size, 0, none⟩ v0).setCell ⟨WX.heap.size, 1, none⟩ v1).setCell ⟨WX.heap.size, 2, none⟩ v2).setCell ⟨WX.heap.size, 3, none⟩ v3).cell? ⟨w.heap.size, 1, none⟩ = some (.slice ea el ec) ∧ ((((u.setCell ⟨WX.heap.size, 0, none⟩ v0).setCell ⟨WX.heap.size, 1, none⟩ v1).setCell ⟨WX.heap.size, 2, none⟩ v2).setCell ⟨WX.heap.size, 3, none⟩ v3).cell? ⟨w.heap.size, 2, none⟩ = some (.int .i64 next))) := fun u kk v0 v1 v2 v3 => HS.out _ ((((kk.setCell (p := ⟨WX.heap.size, 0, none⟩) (Nat.le_refl _) _).setCell (p := ⟨WX.heap.size, 1, none⟩) (Nat.le_refl _) _).setCell (p := ⟨WX.heap.size, 2, none⟩) (Nat.le_refl _) _).setCell (p := ⟨WX.heap.size, 3, none⟩) (Nat.le_refl _) _)
        go_cut [13, 14] (fun s13 s14 wx => ∃ p, s13 = .pointer (some ⟨p, 0, none⟩) ∧ s14 = .bool ok ∧ wx.heap[p]? = some (.cells #[.bool xr.edge, .int .i64 xr.id, .string xr.typ, .slice xr.pa xr.pl xr.pc] 66 (0, 0)) ∧ Below WX.heap.size WX wx)
        case first =>
          go_region_held3 (fun W' => (W'.cell? ⟨b2, off2 + i, none⟩ = some (.int .i64 id)) ∧ (W'.cell? ⟨w.heap.size, 0, none⟩ = some (.slice na nl nc) ∧ W'.cell? ⟨w.heap.size, 1, none⟩ = some (.slice ea el ec) ∧ W'.cell? ⟨w.heap.size, 2, none⟩ = some (.int .i64 next)))
            (first
              | with_reducible exact HS.out _ k1
              | with_reducible exact HS.out _ D0
              | with_reducible exact HS.out _ (k1.alloc k1.size _)
              | with_reducible exact HS.out _ (D0.alloc (Nat.le_refl _) _)
              | with_reducible exact HST.out _ k1 _ _ _ _
              | exact ⟨y0, y1, y2, y3⟩
              | go_keep)
            (first
              | (go_at_call 26; go_fit (HCI.out WX.drew (HW0.out.trans (D0.mono HW0.out.size))); rintro e u1 ⟨rfl, h1⟩; have k1 : Below WX.heap.size WX u1 := D0.trans h1)
              | (go_at_call 26; go_fit (HCI.out (WX.drew.alloc (.cells #[.bool false, .int .i64 0, .string ⟨#[]⟩, .slice none 0 0] 66)) (HW0.out.trans ((D0.alloc (Nat.le_refl _) _).mono HW0.out.size))); rintro e u1 ⟨rfl, h1⟩; have k1 : Below WX.heap.size WX u1 := (D0.alloc (Nat.le_refl _) _).trans (h1.mono (by simp)); have hq : u1.heap[WX.heap.size]? = some (.cells #[.bool false, .int .i64 0, .string ⟨#[]⟩, .slice none 0 0] 66 (0, 0)) := (h1.block WX.heap.size (by simp)).trans (alloc_new WX.drew (.cells #[.bool false, .int .i64 0, .string ⟨#[]⟩, .slice none 0 0] 66)); have r0 := cell_of hq 0; have r1 := cell_of hq 1; have r2 := cell_of hq 2; have r3 := cell_of hq 3; have f0 := free_of hq 0; have f1 := free_of hq 1; have f2 := free_of hq 2; have f3 := free_of hq 3; simp at r0 r1 r2 r3; have hsz1 : WX.heap.size < u1.heap.size := lt_block' hq))
          all_goals
            go_wp2_with fail
            go_meet
          · exact ⟨u1.heap.size, rfl, rfl, alloc_new u1 _, k1.alloc k1.size _⟩
          · have E4 := box4 hq rfl (.bool xr.edge) (.int .i64 xr.id) (.string xr.typ) (.slice xr.pa xr.pl xr.pc)
            have K4 : Below WX.heap.size WX (putL u1 WX.heap.size 0 [.bool xr.edge, .int .i64 xr.id, .string xr.typ, .slice xr.pa xr.pl xr.pc]) := k1.trans (putL_bel WX.heap.size _ _ u1)
            exact ⟨WX.heap.size, rfl, rfl, E4, K4⟩
        case rest =>
          obtain ⟨p, rfl, rfl, hpb, kx⟩ := hcut
          have HKX := toHid kx
          have HWC := toHid (show Below w.heap.size w wc from HWW.out.trans (kx.mono HWW.out.size))
          have g0 := cell_of hpb 0
          have g1 := cell_of hpb 1
          have g2 := cell_of hpb 2
          have g3 := cell_of hpb 3
          simp at g0 g1 g2 g3
          have hpw : p < wc.heap.size := lt_block' hpb
          have hmw := (kx.block (w.heap.size + 1) (by rw [HZX.out]; omega)).trans HMX.out
          have hrun := run_update_new (P := Tryd.prog) Tryd.underlying45 Tryd.underlying9 hmw (by simpa using ents_keys l 0) s (by rw [List.toList_toArray, ents_find, HF.out]; rfl) (.agg #[.bool xr.edge, .int .i64 xr.id, .string xr.typ, .slice xr.pa xr.pl xr.pc])
          obtain ⟨W5, hW5⟩ : ∃ z, z = putB wc (w.heap.size + 1) (.map ((entsFrom l 0).toArray.push ⟨.string s, .agg #[.bool xr.edge, .int .i64 xr.id, .string xr.typ, .slice xr.pa xr.pl xr.pc], l.length⟩) (l.length + 1)) := ⟨_, rfl⟩
          rw [← hW5] at hrun
          have HM5 : Hid (W5.heap[w.heap.size + 1]? = some (.map (entsFrom (l ++ [(s, xr)]) 0).toArray (l ++ [(s, xr)]).length)) := by
            show W5.heap[w.heap.size + 1]? = _
            rw [hW5, putB_here (lt_block' hmw), ents_snoc]
            simp [ThR.val]
          have HB5 : Hid (Below (w.heap.size + 1) W W5) := by
            rw [hW5]
            exact (HBX.out.trans (kx.mono (by rw [HZX.out]; omega))).trans (putB_bel _ wc _ _ (Nat.le_refl _))
          clear hW5 hmw hpb kx
          cases ok with
          | false =>
            have HRR : Hid (BR = (5, [])) := by
              show BR = _
              rw [HBR.out, HDS.out, HDI.out]
              unfold bindF
              have hn : thingF N E id = none := by
                rw [← HTH.out]
                cases hx : th with
                | none => rfl
                | some y => have := HOK.out; rw [hx] at this; cases this
              rw [HF.out]
              simp [hn]
            go_wp2_with fail
            exact bodyPost_ret (v := .tuple #[.map none, .int .i64 5]) (by simp [results, Tryd.results13, go_sem]) rfl ⟨.inl ⟨by rw [HRR.out]; decide, by rw [HRR.out]⟩, HWC.out⟩
          | true =>
            have HRR : Hid (BR = bindF N E (S.drop (i + 1)) (I.drop (i + 1)) (l ++ [(s, xr)])) := by
              show BR = _
              have hn : thingF N E id = some xr := by
                rw [← HTH.out]
                cases hx : th with
                | none => have := HOK.out; rw [hx] at this; cases this
                | some y => rw [HXR.out, hx]; rfl
              rw [HBR.out, HDS.out, HDI.out]
              conv => lhs; unfold bindF
              rw [HF.out]
              simp [hn]
            go_wp2_with fail
            go_roundg (il - (i + 1))
            case measure => omega
            case rel => exact ⟨i + 1, l ++ [(s, xr)], by omega, by omega, by go_num, HM5.out, HB5.out, HRR.out⟩
    · have hil : ¬ (i : Int) < il := by omega
      have HRR : Hid (BR = (0, l)) := by
        show BR = _
        rw [HBR.out, List.drop_eq_nil_of_le (by have := HSA.out.1; omega)]
        rfl
      have HBX := toHid hw0
      clear hbw hw0 hw00
      go_wp2_with fail
      exact bodyPost_ret (v := .tuple #[.map (some (w.heap.size + 1)), .int .i64 0]) (by simp [results, Tryd.results13, go_sem]) rfl ⟨.inr ⟨by rw [HRR.out], w.heap.size + 1, rfl, by rw [HRR.out]; exact HMP.out⟩, HBX.out⟩
end Go.Proofs.YtfjlpjemccllaaaDoor
