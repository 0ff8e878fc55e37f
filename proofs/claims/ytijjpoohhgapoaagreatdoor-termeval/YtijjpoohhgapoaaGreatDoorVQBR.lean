import Derived.Test.YtijjpoohhgapoaaGreatDoorVQBQ
namespace Go.Proofs.YtijjpoohhgapoaaGreatDoor
open Go.RowKit
set_option linter.unusedVariables false
set_option maxHeartbeats 8000000
set_option maxRecDepth 100000
open Value renaming slice → C, int → F, string → G, pointer → P, agg → Q
open IntKind renaming i64 → D
open RowKit.Below renaming refl → H
open Nat renaming le_refl → J, lt_of_lt_of_le → K
open Obj renaming cells → M
open Ending renaming returned → O
theorem gq {N:List Nd} {E:List Ed} {s:ByteArray} {S:List ByteArray} {I:List Int} {l:List (ByteArray × ThR)} (h:(l.find? (fun p=>s==p.1)).isSome=true):bl N E (s::S) I l=(7,[]):=if_pos h
theorem pI {N:List Nd} {E:List Ed} {s:ByteArray} {S:List ByteArray} {I:List Int} {l:List (ByteArray × ThR)} (h:(l.find? (fun p=>s==p.1)).isSome=false) (ht:bg N E (I.headD 0)=none):bl N E (s::S) I l=(5,[]):=by
 unfold bl
 rw[if_neg (by rw[h];simp),ht]
theorem kX {N:List Nd} {E:List Ed} {s:ByteArray} {S:List ByteArray} {I:List Int} {l:List (ByteArray × ThR)} {x:ThR} (h:(l.find? (fun p=>s==p.1)).isSome=false) (ht:bg N E (I.headD 0)=some x):bl N E (s::S) I l=bl N E S I.tail (l ++ [(s,x)]):=by
 rw[bl,if_neg (by rw[h];simp),ht]
theorem mB (l:List (ByteArray × ThR)) (s:ByteArray):((f1L l s).getD 0=0∧(l.find? (fun p=>s==p.1)).isSome=false)∨((f1L l s).getD 0≠0∧(l.find? (fun p=>s==p.1)).isSome=true):=by
 unfold f1L
 cases l.find? (fun p=>s==p.1) with
 | none=>exact .inl ⟨rfl,rfl⟩
 | some p=>
   refine .inr ⟨?_,rfl⟩
   show(if p.2.edge=true then (2:Int) else 1)≠0
   split<;>decide
theorem oN {N:List Nd} {E:List Ed} {id:Int} (h:id ∈ N.map Nd.id):∃x,bg N E id=some x∧x.edge=false∧x.id=id:=by
 unfold bg
 cases hn:N.find? (fun x=>x.id==id) with
 | some y=>exact⟨y.tr,rfl,rfl,by show y.id=id;simpa using List.find?_some hn⟩
 | none=>
   obtain⟨y,hy,e⟩:=List.mem_map.1 h
   have:=List.find?_eq_none.1 hn y hy
   simp[e] at this
theorem oP {N:List Nd} {E:List Ed} {id:Int} (hN:id ∉ N.map Nd.id) (h:id ∈ E.map Ed.id):∃x,bg N E id=some x∧x.edge=true∧x.id=id:=by
 unfold bg
 rw[iD hN]
 cases hn:E.find? (fun x=>x.id==id) with
 | some y=>exact⟨y.tr,rfl,rfl,by show y.id=id;simpa using List.find?_some hn⟩
 | none=>
   obtain⟨y,hy,e⟩:=List.mem_map.1 h
   have:=List.find?_eq_none.1 hn y hy
   simp[e] at this
theorem oO {N:List Nd} {E:List Ed} {id:Int} (hN:id ∉ N.map Nd.id) (h:id ∉ E.map Ed.id):bg N E id=none:=by
 unfold bg
 rw[iD hN,iD h]
 rfl
theorem ThG.below {w w':World} {N:List Nd} {E:List Ed} {x:Th} (h:ThG w N E x) (k:Below w.heap.size w w'):ThG w' N E x:=by
 rcases h with⟨h1,h2,h3⟩ | ⟨h1,h2,h3,h4⟩
 ·exact .inl ⟨h1,h2,fun nd hn e=>⟨aX.below k (h3 nd hn e).1,(h3 nd hn e).2.mono fun p y _ _ hp=>hp.below k⟩⟩
 ·exact .inr ⟨h1,h2,h3,fun ed hn e=>⟨(h4 ed hn e).1,aX.below k (h4 ed hn e).2.1,(h4 ed hn e).2.2.mono fun p y _ _ hp=>hp.below k⟩⟩
theorem lh {B:Nat} (w:World) (N:List Nd) (E:List Ed) (na:Option Addr) (nl nc:Nat) (ea:Option Addr) (el ec:Nat) (next:Int) (S:List ByteArray) (sa:Option Addr) (sl sc:Nat) (I:List Int) (ia:Option Addr) (ic:Nat) (k vk vn:Int) (vs:ByteArray) (va:Option Addr) (vl vc:Nat) (nm:ByteArray) (a:Option Addr) (l c:Nat) (Lv:List T) (A:List Tm) (mx:Int) (hGr:iN w N E na nl ea el) (hS:cD w S sa sl) (hII:dH w I ia sl) (hB:B≤w.heap.size) (hT:bD B w) (ht:bd w k vk vn vs va vl vc nm a l c Lv A) (hI:InM (.node k (.node vk vn vs Lv) nm A)) (hm:w.cell? ⟨2,0,none⟩=some (F D mx)) (hgm:2<w.heap.size) (hge0:gE N E next=0) (h30:sl≤30):Calls Tryz.prog 3 #[Q #[C na nl nc,C ea el ec,F D next],C sa sl sc,C ia sl ic,Q #[F D k,F D vk,F D vn,G vs,C va vl vc,G nm,C a l c]] w fun e w'=>e=O (.bool true)∧Below w.heap.size w w':=by
 have HSL:=aa (show sl=S.length∧sl=I.length from⟨hS.1,hII.1⟩)
 have HG0:=aa hge0
 clear hge0
 obtain⟨q,hq,hev⟩:=lV hGr nc ec next sc ic hS hII hB hT k vk vn vs va vl vc nm a l c Lv A ht hI
 obtain⟨ER,hER⟩:∃z,z=evE (gE N E next) sl sl (bl N E S I []).1 (bi (aO q) 6 (.node k (.node vk vn vs Lv) nm A)):=⟨_,rfl⟩
 obtain⟨TV,hTV⟩:∃z,z=aI (aO q) 6 (.node k (.node vk vn vs Lv) nm A):=⟨_,rfl⟩
 obtain⟨ge,hge⟩:∃z,z=gE N E next:=⟨_,rfl⟩
 have hcg:=fun W hW=>gS hGr nc ec next W hW
 rw[←hER,←hTV] at hev
 rw[←hge] at hER hcg hq
 have HEV:=aa hev
 have HCG:=aa hcg
 have HQ:=aa hq
 have HER:=aa hER
 have HTV:=aa hTV
 have HGR:=aa hGr
 have HSS:=aa hS
 have HII:=aa hII
 have HTB:=aa hT
 have HBB:=aa hB
 have HTA:=aa ht
 have HIN:=aa hI
 have HMX:=aa (show w.cell? ⟨2,0,none⟩=some (F D mx)∧2<w.heap.size from⟨hm,hgm⟩)
 have HGE:=aa hge
 have hb2:Below w.heap.size w ((w.alloc (M #[C na nl nc,C ea el ec,F D next] 25)).alloc (M #[F D k,F D vk,F D vn,G vs,C va vl vc,G nm,C a l c] 33)):=((H _ _).alloc (J _) _).alloc (by simp) _
 have hz:((w.alloc (M #[C na nl nc,C ea el ec,F D next] 25)).alloc (M #[F D k,F D vk,F D vn,G vs,C va vl vc,G nm,C a l c] 33)).heap.size=w.heap.size+2:=by simp
 have h0:((w.alloc (M #[C na nl nc,C ea el ec,F D next] 25)).alloc (M #[F D k,F D vk,F D vn,G vs,C va vl vc,G nm,C a l c] 33)).heap[w.heap.size]? = some (M #[C na nl nc,C ea el ec,F D next] 25 (0,0)):=(Below.heap_alloc (w.alloc (M #[C na nl nc,C ea el ec,F D next] 25)) (M #[F D k,F D vk,F D vn,G vs,C va vl vc,G nm,C a l c] 33) w.heap.size (by simp)).trans (ae w (M #[C na nl nc,C ea el ec,F D next] 25))
 have h1:((w.alloc (M #[C na nl nc,C ea el ec,F D next] 25)).alloc (M #[F D k,F D vk,F D vn,G vs,C va vl vc,G nm,C a l c] 33)).heap[w.heap.size+1]? = some (M #[F D k,F D vk,F D vn,G vs,C va vl vc,G nm,C a l c] 33 (0,0)):=ay w (M #[C na nl nc,C ea el ec,F D next] 25) (M #[F D k,F D vk,F D vn,G vs,C va vl vc,G nm,C a l c] 33)
 have HB:=aa hb2
 have HZ:=aa hz
 have H0:=aa h0
 have H1:=aa h1
 clear hev hcg hq hER hTV hGr hS hII hT hB ht hI hm hgm hge hb2 hz h0 h1
 have hg0:ge=0:=HGE.out.trans HG0.out
 subst hg0
 obtain⟨BF,hBF⟩:∃z,z=bl N E S I []:=⟨_,rfl⟩
 rw[←hBF] at HER HQ
 have HBF:=aa hBF
 have hl30:¬(30:Int)<(sl:Int):=by omega
 have HTD:Hid (∀u,Below w.heap.size w u→Calls Tryz.prog 9 #[] u fun e w'=>e=O (.bool true)∧Below u.heap.size u w'):=fun u ku=>jk (B:=B) u (Nat.le_trans HBB.out ku.size) (HTB.out.below (ku.mono HBB.out))
 clear hBF
 go_enter Tryz.func3,Tryz.ntmps3
 go_upto_region 1 with fail
 generalize ((w.alloc (M #[C na nl nc,C ea el ec,F D next] 25)).alloc (M #[F D k,F D vk,F D vn,G vs,C va vl vc,G nm,C a l c] 33))=W at HB HZ H0 H1 ⊢
 have HG1:Hid (∀u,Below (w.heap.size+2) W u→u.heap[w.heap.size]? = some (M #[C na nl nc,C ea el ec,F D next] 25 (0,0))):=fun u kk=>(kk.block w.heap.size (by omega)).trans H0.out
 have HT1:Hid (∀u,Below (w.heap.size+2) W u→u.heap[w.heap.size+1]? = some (M #[F D k,F D vk,F D vn,G vs,C va vl vc,G nm,C a l c] 33 (0,0))):=fun u kk=>(kk.block (w.heap.size+1) (by omega)).trans H1.out
 have hgb:=HG1.out W (H _ _)
 obtain⟨g0,g1,g2⟩:=cj hgb
 simp at g0 g1 g2
 have hgs:w.heap.size<W.heap.size:=lt_block' hgb
 clear hgb
 have htb:=HT1.out W (H _ _)
 obtain⟨t0,t1,t2,t3,t4,t5,t6⟩:=bV htb
 simp at t0 t1 t2 t3 t4 t5 t6
 have hts:w.heap.size+1<W.heap.size:=lt_block' htb
 clear htb
 go_wp2_with fail
 refine(HEV.out _ HB.out).mono ?_
 clear g0 g1 g2 t0 t1 t2 t3 t4 t5 t6
 rintro e u1 ⟨⟨rk,rn,rs,ra,rl,rc,rfl,hzer,hval⟩,k1⟩
 have HZE:=aa hzer
 have HVA:=aa hval
 have HW1:=aa (af HB.out k1)
 have HX1:Hid (Below (w.heap.size+2) W u1):=k1.mono (by rw[HZ.out];exact J _)
 have hu1:w.heap.size+2≤u1.heap.size:=by have:=k1.size;rw[HZ.out] at this;exact this
 clear hzer hval k1
 have hkx:Below u1.heap.size u1 (u1.alloc (M #[F D rk,F D rn,G rs,C ra rl rc] 30)):=(H _ _).alloc (J _) _
 have HVB:=aa (ae u1 (M #[F D rk,F D rn,G rs,C ra rl rc] 30))
 have HW2:=aa (af HW1.out hkx)
 have HX2:Hid (Below (w.heap.size+2) W (u1.alloc (M #[F D rk,F D rn,G rs,C ra rl rc] 30))):=HX1.out.trans (hkx.mono hu1)
 have HKX:=aa hkx
 have hxz:(u1.alloc (M #[F D rk,F D rn,G rs,C ra rl rc] 30)).heap.size=u1.heap.size+1:=by simp
 clear hkx
 go_upto_region 2 with fail
 generalize u1.alloc (M #[F D rk,F D rn,G rs,C ra rl rc] 30)=X1 at HVB HW2 HX2 HKX hxz ⊢
 have hgb:=HG1.out X1 (HX2.out)
 obtain⟨g0,g1,g2⟩:=cj hgb
 simp at g0 g1 g2
 have hgs:w.heap.size<X1.heap.size:=lt_block' hgb
 clear hgb
 go_wp2_with fail
 refine(HCG.out _ HW2.out).mono ?_
 clear g0 g1 g2
 rintro e u2 ⟨rfl,k2⟩
 have HW3:=aa (af HW2.out k2)
 have HX3:Hid (Below (w.heap.size+2) W u2):=HX2.out.trans (k2.mono (by omega))
 have HV3:Hid (Below (u1.heap.size+1) X1 u2):=k2.mono (by omega)
 have hu2:u1.heap.size+1≤u2.heap.size:=by have:=k2.size;omega
 clear k2
 have hmm:=@run_makeMap Tryz.prog
 have HM2':Hid (Below u2.heap.size u2 ((u2.alloc (.map #[] 0)).alloc (.map #[] 0))):=((H _ _).alloc (J _) _).alloc (by simp) _
 have HMA:Hid (((u2.alloc (.map #[] 0)).alloc (.map #[] 0)).heap[u2.heap.size]? = some (.map #[] 0)):=(Below.heap_alloc (u2.alloc (.map #[] 0)) (.map #[] 0) u2.heap.size (by simp)).trans (ae u2 (.map #[] 0))
 have HMB:Hid (((u2.alloc (.map #[] 0)).alloc (.map #[] 0)).heap[u2.heap.size+1]? = some (.map #[] 0)):=ay u2 (.map #[] 0) (.map #[] 0)
 go_wp2_with fail
 clear hmm
 generalize (u2.alloc (.map #[] 0)).alloc (.map #[] 0)=X3 at HM2' HMA HMB ⊢
 go_loopg [11,14] sl (fun q s11 s14 wr=>∃(j:Nat) (bad:Int),s11=F D bad∧s14=F D j∧j≤sl∧sl-j≤q∧Below u2.heap.size u2 wr∧((bad=0∧u2.heap.size+1<wr.heap.size∧∃L,BF=bl N E (S.drop j) (I.drop j) L∧ch wr u2.heap.size (f1L L)∧ch wr (u2.heap.size+1) (f2L L))∨(bad≠0∧BF.1=bad)))
 case atStart=>exact⟨0,0,rfl,rfl,Nat.zero_le _,by omega,HM2'.out,.inl ⟨rfl,lt_block' HMB.out,[],HBF.out,ch.new HMA.out,ch.new HMB.out⟩⟩
 case round=>
  obtain⟨j,bad,rfl,rfl,hj,hgj,hbw,hst⟩:=hrel
  have HBV:=aa hbw
  have HWV:=aa (af HW3.out hbw)
  have HVV:Hid (Below (u1.heap.size+1) X1 wr):=HV3.out.trans (hbw.mono hu2)
  have HXV:Hid (Below (w.heap.size+2) W wr):=HX3.out.trans (hbw.mono (by omega))
  clear hbw
  rcases hst with⟨rfl,hmz,L,hL,hM1,hM2⟩ | ⟨hb0,hbf⟩
  ·have HL:=aa hL
   clear hL
   by_cases hlt:j<sl
   ·skip
    have hjl:(j:Int)<(sl:Int):=by omega
    obtain⟨sb,so,hsa,hsb,hsc⟩:=HSS.out.2.2 (by omega)
    obtain⟨ib,io,hia,hib,hic⟩:=HII.out.2.2 (by omega)
    obtain⟨s,hsj⟩:∃z,S[j]? = some z:=⟨S[j]'(by have:=HSL.out.1;omega),List.getElem?_eq_getElem _⟩
    obtain⟨id,hij⟩:∃z,I[j]? = some z:=⟨I[j]'(by have:=HSL.out.2;omega),List.getElem?_eq_getElem _⟩
    have HDS:Hid (S.drop j=s::S.drop (j+1)):=by
     obtain⟨h1,h2⟩:=List.getElem?_eq_some_iff.1 hsj
     show S.drop j=_
     rw[List.drop_eq_getElem_cons h1,h2]
    have HDI:Hid (I.drop j=id::I.drop (j+1)):=by
     obtain⟨h1,h2⟩:=List.getElem?_eq_some_iff.1 hij
     show I.drop j=_
     rw[List.drop_eq_getElem_cons h1,h2]
    subst hsa hia
    have sc2:u2.cell? ⟨sb,so+j,none⟩=some (G s):=(HW3.out.cell (p:=⟨sb,so+j,none⟩) hsb).trans (hsc j s hsj).2
    have ic2:u2.cell? ⟨ib,io+j,none⟩=some (F D id):=(HW3.out.cell (p:=⟨ib,io+j,none⟩) hib).trans (hic j id hij)
    have hsb2:sb<u2.heap.size:=K hsb HW3.out.size
    have hib2:ib<u2.heap.size:=K hib HW3.out.size
    have hgb2:=HG1.out u2 HX3.out
    obtain⟨gg0,gg1,gg2⟩:=cj hgb2
    simp at gg0 gg1 gg2
    have hgs2:w.heap.size<u2.heap.size:=lt_block' hgb2
    have HS10:Hid (∀u,Below u2.heap.size u2 u→((u.cell? ⟨w.heap.size,0,none⟩=some (C na nl nc)∧u.cell? ⟨w.heap.size,1,none⟩=some (C ea el ec)∧u.cell? ⟨w.heap.size,2,none⟩=some (F D next))∧u.cell? ⟨ib,io+j,none⟩=some (F D id))):=fun u ku=>by
     have c2':=fun o=>ku.cell (p:=⟨w.heap.size,o,none⟩) hgs2
     exact⟨⟨(c2' _).trans gg0,(c2' _).trans gg1,(c2' _).trans gg2⟩,(ku.cell (p:=⟨ib,io+j,none⟩) hib2).trans ic2⟩
    have HMM1:=aa hM1
    have HMM2:=aa hM2
    have HSC2:=aa sc2
    have HIC2:=aa ic2
    have hibV:ib<wr.heap.size:=K hib2 HBV.out.size
    have hgsV:w.heap.size<wr.heap.size:=K hgs2 HBV.out.size
    clear hsc hic hsj hij hgb2 gg0 gg1 gg2 hM1 hM2 sc2 ic2
    obtain⟨⟨g0,g1,g2⟩,xi⟩:=HS10.out wr HBV.out
    have kz0:Below u2.heap.size u2 wr.drew:=HBV.out.trans ((H _ _).drew)
    go_upto_region 10 with fail
    by_cases hN:id ∈ N.map Nd.id
    ·obtain⟨x,hth,hxe,hxi⟩:=oN (E:=E) hN
     have HTH:=aa (show bg N E ((id::I.drop (j+1)).headD 0)=some x from hth)
     have HNA:Hid (∀u,Below w.heap.size w u→Calls Tryz.prog 6 #[Q #[C na nl nc,C ea el ec,F D next],F D id] u fun e w'=>(∃p,e=O (P (some p)))∧Below u.heap.size u w'):=fun u ku=>by
      refine(fs N na nl nc ea el ec next id u (HGR.out.1.below ku)).mono ?_
      rintro e w' ⟨hend,hb⟩
      rcases hend with⟨hno,_⟩ | ⟨i,x,b',off',_,_,_,rfl⟩
      ·exact absurd hN hno
      ·exact⟨⟨_,rfl⟩,hb⟩
     clear hth
     go_region_held3 (fun W'=>((W'.cell? ⟨w.heap.size,0,none⟩=some (C na nl nc)∧W'.cell? ⟨w.heap.size,1,none⟩=some (C ea el ec)∧W'.cell? ⟨w.heap.size,2,none⟩=some (F D next))∧W'.cell? ⟨ib,io+j,none⟩=some (F D id)))
      (first
        | with_reducible exact HS10.out _ kz1
        | with_reducible exact HS10.out _ kz0
        | exact⟨⟨g0,g1,g2⟩,xi⟩
        | go_keep)
      (first
        | (go_at_call 6;go_fit (HNA.out wr.drew (af HWV.out ((H _ _).drew)));rintro e u7 ⟨⟨p,rfl⟩,h7⟩;have kv:Below wr.heap.size wr u7:=((H _ _).drew).trans h7;have kz1:Below u2.heap.size u2 u7:=HBV.out.trans (kv.mono HBV.out.size)))
     all_goals
      have kv0:=kv
      have kzz:=kz1
      have sc2:=HSC2.out
      have ic2:=HIC2.out
      clear g0 g1 g2 xi
      have hVs:wr.heap.size≤u7.heap.size:=kv0.size
      have HM1:Hid (ch u7 u2.heap.size (f1L L)):=HMM1.out.of (kv0.block _ (by omega))
      have HM2:Hid (ch u7 (u2.heap.size+1) (f2L L)):=HMM2.out.of (kv0.block _ (by omega))
      have hm1V:u2.heap.size<u7.drew.heap.size:=by show u2.heap.size<u7.heap.size;omega
      have xs:=(kzz.cell (p:=⟨sb,so+j,none⟩) hsb2).trans sc2
      have hsbV:sb<u7.heap.size:=K hsb2 kzz.size
      have hlk:=HM1.out.ints.look s
      have HBW:=aa kzz
      rcases mB L s with⟨hz,hnf⟩ | ⟨hz,hnf⟩
      ·rw[hz] at hlk
       go_upto_region 18 with fail
       clear xs hlk
       obtain⟨st1,e1,o1,hr1,hs1⟩:=bw (w:=u7.drew) (HM1.out.of rfl) s 1
       obtain⟨o2,hr2,hM1⟩:=hs1 (a7 u7.drew u2.heap.size o1) (aN hm1V o1)
       obtain⟨Y1,hY1⟩:∃z,z=a7 u7.drew u2.heap.size o1:=⟨_,rfl⟩
       rw[←hY1] at hr1 hr2
       obtain⟨Y2,hY2⟩:∃z,z=a7 Y1 u2.heap.size o2:=⟨_,rfl⟩
       rw[←hY2] at hr2
       have hz1:Y1.heap.size=u7.heap.size:=by rw[hY1,aM];rfl
       have hz2:Y2.heap.size=u7.heap.size:=by rw[hY2,aM];exact hz1
       have k0':Below u2.heap.size u2 u7.drew:=HBW.out.trans ((H _ _).drew)
       have kY1:Below u2.heap.size u2 Y1:=by rw[hY1];exact k0'.trans (aT _ _ _ _ (J _))
       have kY2:Below u2.heap.size u2 Y2:=by rw[hY2];exact kY1.trans (aT _ _ _ _ (J _))
       have hM12:ch Y2 u2.heap.size (fun q=>if q=s then some 1 else f1L L q):=hM1 Y2 (by rw[hY2];exact aN (by omega) o2)
       have hM22:ch Y2 (u2.heap.size+1) (f2L L):=HM2.out.of (by rw[hY2,aG _ _ _ _ (by omega),hY1,aG _ _ _ _ (by omega)];rfl)
       obtain⟨st2,e2,o3,hr3,hs3⟩:=bw hM22 s id
       obtain⟨o4,hr4,hM2⟩:=hs3 (a7 Y2 (u2.heap.size+1) o3) (aN (by omega) o3)
       obtain⟨Y3,hY3⟩:∃z,z=a7 Y2 (u2.heap.size+1) o3:=⟨_,rfl⟩
       rw[←hY3] at hr3 hr4
       obtain⟨Y4,hY4⟩:∃z,z=a7 Y3 (u2.heap.size+1) o4:=⟨_,rfl⟩
       rw[←hY4] at hr4
       have hz3:Y3.heap.size=u7.heap.size:=by rw[hY3,aM];exact hz2
       have hz4:Y4.heap.size=u7.heap.size:=by rw[hY4,aM];exact hz3
       have kY3:Below u2.heap.size u2 Y3:=by rw[hY3];exact kY2.trans (aT _ _ _ _ (by omega))
       have kY4:Below u2.heap.size u2 Y4:=by rw[hY4];exact kY3.trans (aT _ _ _ _ (by omega))
       have HF1:Hid (ch Y4 u2.heap.size (fun q=>if q=s then some 1 else f1L L q)):=hM12.of (by rw[hY4,aG _ _ _ _ (by omega),hY3,aG _ _ _ _ (by omega)])
       have HF2:Hid (ch Y4 (u2.heap.size+1) (fun q=>if q=s then some id else f2L L q)):=hM2 Y4 (by rw[hY4];exact aN (by omega) o4)
       have D0:Below u7.heap.size u7 u7.drew:=(H _ _).drew
       have HS:Hid (∀u,Below u2.heap.size u2 u→(u.cell? ⟨sb,so+j,none⟩=some (G s)∧u.cell? ⟨ib,io+j,none⟩=some (F D id))):=fun u ku=>⟨(ku.cell (p:=⟨sb,so+j,none⟩) hsb2).trans sc2,(ku.cell (p:=⟨ib,io+j,none⟩) hib2).trans ic2⟩
       obtain⟨xs,xi⟩:=HS.out u7 HBW.out
       clear hs1 hs3 hM1 hM2 hM12 hM22 hY1 hY2 hY3 hY4
       go_region_held3 (fun W'=>(W'.cell? ⟨sb,so+j,none⟩=some (G s)∧W'.cell? ⟨ib,io+j,none⟩=some (F D id)))
        (first
          | with_reducible exact HS.out _ kY4
          | with_reducible exact HS.out _ kY3
          | with_reducible exact HS.out _ kY2
          | with_reducible exact HS.out _ kY1
          | with_reducible exact HS.out _ k0'
          | exact⟨xs,xi⟩
          | go_keep)
        (fail)
       all_goals
        go_wp2_with fail
        go_roundg (sl-(j+1))
        case measure=>omega
        case rel=>exact⟨j+1,0,rfl,by go_num,by omega,by omega,kY4,.inl ⟨rfl,by omega,L ++ [(s,x)],by rw[HL.out,HDS.out,HDI.out,kX hnf HTH.out];rfl,by rw[qi L s x hnf,hxe];exact HF1.out,by rw[qh L s x hnf,hxi];exact HF2.out⟩⟩
      ·obtain⟨fv,hfv⟩:∃z,z=(f1L L s).getD 0:=⟨_,rfl⟩
       rw[←hfv] at hlk hz
       have hz':(fv != 0)=true:=by simp[hz]
       go_upto_region 18 with fail
       clear xs hlk hz hz' hfv
       obtain⟨st1,e1,o1,hr1,hs1⟩:=bw (w:=u7.drew) (HM1.out.of rfl) s 1
       obtain⟨o2,hr2,hM1⟩:=hs1 (a7 u7.drew u2.heap.size o1) (aN hm1V o1)
       obtain⟨Y1,hY1⟩:∃z,z=a7 u7.drew u2.heap.size o1:=⟨_,rfl⟩
       rw[←hY1] at hr1 hr2
       obtain⟨Y2,hY2⟩:∃z,z=a7 Y1 u2.heap.size o2:=⟨_,rfl⟩
       rw[←hY2] at hr2
       have hz1:Y1.heap.size=u7.heap.size:=by rw[hY1,aM];rfl
       have hz2:Y2.heap.size=u7.heap.size:=by rw[hY2,aM];exact hz1
       have k0':Below u2.heap.size u2 u7.drew:=HBW.out.trans ((H _ _).drew)
       have kY1:Below u2.heap.size u2 Y1:=by rw[hY1];exact k0'.trans (aT _ _ _ _ (J _))
       have kY2:Below u2.heap.size u2 Y2:=by rw[hY2];exact kY1.trans (aT _ _ _ _ (J _))
       have hM12:ch Y2 u2.heap.size (fun q=>if q=s then some 1 else f1L L q):=hM1 Y2 (by rw[hY2];exact aN (by omega) o2)
       have hM22:ch Y2 (u2.heap.size+1) (f2L L):=HM2.out.of (by rw[hY2,aG _ _ _ _ (by omega),hY1,aG _ _ _ _ (by omega)];rfl)
       obtain⟨st2,e2,o3,hr3,hs3⟩:=bw hM22 s id
       obtain⟨o4,hr4,hM2⟩:=hs3 (a7 Y2 (u2.heap.size+1) o3) (aN (by omega) o3)
       obtain⟨Y3,hY3⟩:∃z,z=a7 Y2 (u2.heap.size+1) o3:=⟨_,rfl⟩
       rw[←hY3] at hr3 hr4
       obtain⟨Y4,hY4⟩:∃z,z=a7 Y3 (u2.heap.size+1) o4:=⟨_,rfl⟩
       rw[←hY4] at hr4
       have hz3:Y3.heap.size=u7.heap.size:=by rw[hY3,aM];exact hz2
       have hz4:Y4.heap.size=u7.heap.size:=by rw[hY4,aM];exact hz3
       have kY3:Below u2.heap.size u2 Y3:=by rw[hY3];exact kY2.trans (aT _ _ _ _ (by omega))
       have kY4:Below u2.heap.size u2 Y4:=by rw[hY4];exact kY3.trans (aT _ _ _ _ (by omega))
       have HF1:Hid (ch Y4 u2.heap.size (fun q=>if q=s then some 1 else f1L L q)):=hM12.of (by rw[hY4,aG _ _ _ _ (by omega),hY3,aG _ _ _ _ (by omega)])
       have HF2:Hid (ch Y4 (u2.heap.size+1) (fun q=>if q=s then some id else f2L L q)):=hM2 Y4 (by rw[hY4];exact aN (by omega) o4)
       have D0:Below u7.heap.size u7 u7.drew:=(H _ _).drew
       have HS:Hid (∀u,Below u2.heap.size u2 u→(u.cell? ⟨sb,so+j,none⟩=some (G s)∧u.cell? ⟨ib,io+j,none⟩=some (F D id))):=fun u ku=>⟨(ku.cell (p:=⟨sb,so+j,none⟩) hsb2).trans sc2,(ku.cell (p:=⟨ib,io+j,none⟩) hib2).trans ic2⟩
       obtain⟨xs,xi⟩:=HS.out u7 HBW.out
       clear hs1 hs3 hM1 hM2 hM12 hM22 hY1 hY2 hY3 hY4
       go_region_held3 (fun W'=>(W'.cell? ⟨sb,so+j,none⟩=some (G s)∧W'.cell? ⟨ib,io+j,none⟩=some (F D id)))
        (first
          | with_reducible exact HS.out _ kY4
          | with_reducible exact HS.out _ kY3
          | with_reducible exact HS.out _ kY2
          | with_reducible exact HS.out _ kY1
          | with_reducible exact HS.out _ k0'
          | exact⟨xs,xi⟩
          | go_keep)
        (fail)
       all_goals
        go_wp2_with fail
        go_roundg (sl-(j+1))
        case measure=>omega
        case rel=>exact⟨j+1,7,rfl,by go_num,by omega,by omega,kY4,.inr ⟨by decide,by rw[HL.out,HDS.out,HDI.out];exact congrArg Prod.fst (gq hnf)⟩⟩
    ·have HNA:Hid (∀u,Below w.heap.size w u→Calls Tryz.prog 6 #[Q #[C na nl nc,C ea el ec,F D next],F D id] u fun e w'=>(e=O (P none))∧Below u.heap.size u w'):=fun u ku=>by
      refine(fs N na nl nc ea el ec next id u (HGR.out.1.below ku)).mono ?_
      rintro e w' ⟨hend,hb⟩
      rcases hend with⟨hno,rfl⟩ | ⟨i,x,b',off',_,hi,hid,rfl⟩
      ·exact⟨rfl,hb⟩
      ·exact absurd (List.mem_map.2 ⟨x,List.mem_of_getElem? hi,hid⟩) hN
     go_region_held3 (fun W'=>((W'.cell? ⟨w.heap.size,0,none⟩=some (C na nl nc)∧W'.cell? ⟨w.heap.size,1,none⟩=some (C ea el ec)∧W'.cell? ⟨w.heap.size,2,none⟩=some (F D next))∧W'.cell? ⟨ib,io+j,none⟩=some (F D id)))
      (first
        | with_reducible exact HS10.out _ kz1
        | with_reducible exact HS10.out _ kz0
        | exact⟨⟨g0,g1,g2⟩,xi⟩
        | go_keep)
      (first
        | (go_at_call 6;go_fit (HNA.out wr.drew (af HWV.out ((H _ _).drew)));rintro e u7 ⟨rfl,h7⟩;have kv:Below wr.heap.size wr u7:=((H _ _).drew).trans h7;have kz1:Below u2.heap.size u2 u7:=HBV.out.trans (kv.mono HBV.out.size)))
     all_goals
      have kz9:=kz1
      have kw9:=kv
      clear kz1 kv
      generalize u7=u9 at kz9 kw9 ⊢
      clear g0 g1 g2 xi kz0
      obtain⟨⟨g0,g1,g2⟩,xi⟩:=HS10.out u9 kz9
      have kz0:Below u2.heap.size u2 u9.drew:=kz9.trans ((H _ _).drew)
      have hW9:=af HWV.out kw9
      have hib9:ib<u9.heap.size:=K hib2 kz9.size
      have hgs9:w.heap.size<u9.heap.size:=K hgs2 kz9.size
      go_upto_region 12 with fail
      by_cases hE:id ∈ E.map Ed.id
      ·obtain⟨x,hth,hxe,hxi⟩:=oP hN hE
       have HTH:=aa (show bg N E ((id::I.drop (j+1)).headD 0)=some x from hth)
       have HEA:Hid (∀u,Below w.heap.size w u→Calls Tryz.prog 7 #[Q #[C na nl nc,C ea el ec,F D next],F D id] u fun e w'=>(∃p,e=O (P (some p)))∧Below u.heap.size u w'):=fun u ku=>by
        refine(fA E na nl nc ea el ec next id u (HGR.out.2.1.below ku)).mono ?_
        rintro e w' ⟨hend,hb⟩
        rcases hend with⟨hno,_⟩ | ⟨i,x,b',off',_,_,_,rfl⟩
        ·exact absurd hE hno
        ·exact⟨⟨_,rfl⟩,hb⟩
       clear hth
       go_region_held3 (fun W'=>((W'.cell? ⟨w.heap.size,0,none⟩=some (C na nl nc)∧W'.cell? ⟨w.heap.size,1,none⟩=some (C ea el ec)∧W'.cell? ⟨w.heap.size,2,none⟩=some (F D next))∧W'.cell? ⟨ib,io+j,none⟩=some (F D id)))
        (first
          | with_reducible exact HS10.out _ kz1
          | with_reducible exact HS10.out _ kz0
          | exact⟨⟨g0,g1,g2⟩,xi⟩
          | go_keep)
        (first
          | (go_at_call 7;go_fit (HEA.out u9.drew (af hW9 ((H _ _).drew)));rintro e u7 ⟨⟨p,rfl⟩,h7⟩;have kv:Below u9.heap.size u9 u7:=((H _ _).drew).trans h7;have kz1:Below u2.heap.size u2 u7:=kz9.trans (kv.mono kz9.size)))
       all_goals
        have kv0:=af kw9 kv
        have kzz:=kz1
        have sc2:=HSC2.out
        have ic2:=HIC2.out
        clear g0 g1 g2 xi
        have hVs:wr.heap.size≤u7.heap.size:=kv0.size
        have HM1:Hid (ch u7 u2.heap.size (f1L L)):=HMM1.out.of (kv0.block _ (by omega))
        have HM2:Hid (ch u7 (u2.heap.size+1) (f2L L)):=HMM2.out.of (kv0.block _ (by omega))
        have hm1V:u2.heap.size<u7.drew.heap.size:=by show u2.heap.size<u7.heap.size;omega
        have xs:=(kzz.cell (p:=⟨sb,so+j,none⟩) hsb2).trans sc2
        have hsbV:sb<u7.heap.size:=K hsb2 kzz.size
        have hlk:=HM1.out.ints.look s
        have HBW:=aa kzz
        rcases mB L s with⟨hz,hnf⟩ | ⟨hz,hnf⟩
        ·rw[hz] at hlk
         go_upto_region 18 with fail
         clear xs hlk
         obtain⟨st1,e1,o1,hr1,hs1⟩:=bw (w:=u7.drew) (HM1.out.of rfl) s 2
         obtain⟨o2,hr2,hM1⟩:=hs1 (a7 u7.drew u2.heap.size o1) (aN hm1V o1)
         obtain⟨Y1,hY1⟩:∃z,z=a7 u7.drew u2.heap.size o1:=⟨_,rfl⟩
         rw[←hY1] at hr1 hr2
         obtain⟨Y2,hY2⟩:∃z,z=a7 Y1 u2.heap.size o2:=⟨_,rfl⟩
         rw[←hY2] at hr2
         have hz1:Y1.heap.size=u7.heap.size:=by rw[hY1,aM];rfl
         have hz2:Y2.heap.size=u7.heap.size:=by rw[hY2,aM];exact hz1
         have k0':Below u2.heap.size u2 u7.drew:=HBW.out.trans ((H _ _).drew)
         have kY1:Below u2.heap.size u2 Y1:=by rw[hY1];exact k0'.trans (aT _ _ _ _ (J _))
         have kY2:Below u2.heap.size u2 Y2:=by rw[hY2];exact kY1.trans (aT _ _ _ _ (J _))
         have hM12:ch Y2 u2.heap.size (fun q=>if q=s then some 2 else f1L L q):=hM1 Y2 (by rw[hY2];exact aN (by omega) o2)
         have hM22:ch Y2 (u2.heap.size+1) (f2L L):=HM2.out.of (by rw[hY2,aG _ _ _ _ (by omega),hY1,aG _ _ _ _ (by omega)];rfl)
         obtain⟨st2,e2,o3,hr3,hs3⟩:=bw hM22 s id
         obtain⟨o4,hr4,hM2⟩:=hs3 (a7 Y2 (u2.heap.size+1) o3) (aN (by omega) o3)
         obtain⟨Y3,hY3⟩:∃z,z=a7 Y2 (u2.heap.size+1) o3:=⟨_,rfl⟩
         rw[←hY3] at hr3 hr4
         obtain⟨Y4,hY4⟩:∃z,z=a7 Y3 (u2.heap.size+1) o4:=⟨_,rfl⟩
         rw[←hY4] at hr4
         have hz3:Y3.heap.size=u7.heap.size:=by rw[hY3,aM];exact hz2
         have hz4:Y4.heap.size=u7.heap.size:=by rw[hY4,aM];exact hz3
         have kY3:Below u2.heap.size u2 Y3:=by rw[hY3];exact kY2.trans (aT _ _ _ _ (by omega))
         have kY4:Below u2.heap.size u2 Y4:=by rw[hY4];exact kY3.trans (aT _ _ _ _ (by omega))
         have HF1:Hid (ch Y4 u2.heap.size (fun q=>if q=s then some 2 else f1L L q)):=hM12.of (by rw[hY4,aG _ _ _ _ (by omega),hY3,aG _ _ _ _ (by omega)])
         have HF2:Hid (ch Y4 (u2.heap.size+1) (fun q=>if q=s then some id else f2L L q)):=hM2 Y4 (by rw[hY4];exact aN (by omega) o4)
         have D0:Below u7.heap.size u7 u7.drew:=(H _ _).drew
         have HS:Hid (∀u,Below u2.heap.size u2 u→(u.cell? ⟨sb,so+j,none⟩=some (G s)∧u.cell? ⟨ib,io+j,none⟩=some (F D id))):=fun u ku=>⟨(ku.cell (p:=⟨sb,so+j,none⟩) hsb2).trans sc2,(ku.cell (p:=⟨ib,io+j,none⟩) hib2).trans ic2⟩
         obtain⟨xs,xi⟩:=HS.out u7 HBW.out
         clear hs1 hs3 hM1 hM2 hM12 hM22 hY1 hY2 hY3 hY4
         go_region_held3 (fun W'=>(W'.cell? ⟨sb,so+j,none⟩=some (G s)∧W'.cell? ⟨ib,io+j,none⟩=some (F D id)))
          (first
            | with_reducible exact HS.out _ kY4
            | with_reducible exact HS.out _ kY3
            | with_reducible exact HS.out _ kY2
            | with_reducible exact HS.out _ kY1
            | with_reducible exact HS.out _ k0'
            | exact⟨xs,xi⟩
            | go_keep)
          (fail)
         all_goals
          go_wp2_with fail
          go_roundg (sl-(j+1))
          case measure=>omega
          case rel=>exact⟨j+1,0,rfl,by go_num,by omega,by omega,kY4,.inl ⟨rfl,by omega,L ++ [(s,x)],by rw[HL.out,HDS.out,HDI.out,kX hnf HTH.out];rfl,by rw[qi L s x hnf,hxe];exact HF1.out,by rw[qh L s x hnf,hxi];exact HF2.out⟩⟩
        ·obtain⟨fv,hfv⟩:∃z,z=(f1L L s).getD 0:=⟨_,rfl⟩
         rw[←hfv] at hlk hz
         have hz':(fv != 0)=true:=by simp[hz]
         go_upto_region 18 with fail
         clear xs hlk hz hz' hfv
         obtain⟨st1,e1,o1,hr1,hs1⟩:=bw (w:=u7.drew) (HM1.out.of rfl) s 2
         obtain⟨o2,hr2,hM1⟩:=hs1 (a7 u7.drew u2.heap.size o1) (aN hm1V o1)
         obtain⟨Y1,hY1⟩:∃z,z=a7 u7.drew u2.heap.size o1:=⟨_,rfl⟩
         rw[←hY1] at hr1 hr2
         obtain⟨Y2,hY2⟩:∃z,z=a7 Y1 u2.heap.size o2:=⟨_,rfl⟩
         rw[←hY2] at hr2
         have hz1:Y1.heap.size=u7.heap.size:=by rw[hY1,aM];rfl
         have hz2:Y2.heap.size=u7.heap.size:=by rw[hY2,aM];exact hz1
         have k0':Below u2.heap.size u2 u7.drew:=HBW.out.trans ((H _ _).drew)
         have kY1:Below u2.heap.size u2 Y1:=by rw[hY1];exact k0'.trans (aT _ _ _ _ (J _))
         have kY2:Below u2.heap.size u2 Y2:=by rw[hY2];exact kY1.trans (aT _ _ _ _ (J _))
         have hM12:ch Y2 u2.heap.size (fun q=>if q=s then some 2 else f1L L q):=hM1 Y2 (by rw[hY2];exact aN (by omega) o2)
         have hM22:ch Y2 (u2.heap.size+1) (f2L L):=HM2.out.of (by rw[hY2,aG _ _ _ _ (by omega),hY1,aG _ _ _ _ (by omega)];rfl)
         obtain⟨st2,e2,o3,hr3,hs3⟩:=bw hM22 s id
         obtain⟨o4,hr4,hM2⟩:=hs3 (a7 Y2 (u2.heap.size+1) o3) (aN (by omega) o3)
         obtain⟨Y3,hY3⟩:∃z,z=a7 Y2 (u2.heap.size+1) o3:=⟨_,rfl⟩
         rw[←hY3] at hr3 hr4
         obtain⟨Y4,hY4⟩:∃z,z=a7 Y3 (u2.heap.size+1) o4:=⟨_,rfl⟩
         rw[←hY4] at hr4
         have hz3:Y3.heap.size=u7.heap.size:=by rw[hY3,aM];exact hz2
         have hz4:Y4.heap.size=u7.heap.size:=by rw[hY4,aM];exact hz3
         have kY3:Below u2.heap.size u2 Y3:=by rw[hY3];exact kY2.trans (aT _ _ _ _ (by omega))
         have kY4:Below u2.heap.size u2 Y4:=by rw[hY4];exact kY3.trans (aT _ _ _ _ (by omega))
         have HF1:Hid (ch Y4 u2.heap.size (fun q=>if q=s then some 2 else f1L L q)):=hM12.of (by rw[hY4,aG _ _ _ _ (by omega),hY3,aG _ _ _ _ (by omega)])
         have HF2:Hid (ch Y4 (u2.heap.size+1) (fun q=>if q=s then some id else f2L L q)):=hM2 Y4 (by rw[hY4];exact aN (by omega) o4)
         have D0:Below u7.heap.size u7 u7.drew:=(H _ _).drew
         have HS:Hid (∀u,Below u2.heap.size u2 u→(u.cell? ⟨sb,so+j,none⟩=some (G s)∧u.cell? ⟨ib,io+j,none⟩=some (F D id))):=fun u ku=>⟨(ku.cell (p:=⟨sb,so+j,none⟩) hsb2).trans sc2,(ku.cell (p:=⟨ib,io+j,none⟩) hib2).trans ic2⟩
         obtain⟨xs,xi⟩:=HS.out u7 HBW.out
         clear hs1 hs3 hM1 hM2 hM12 hM22 hY1 hY2 hY3 hY4
         go_region_held3 (fun W'=>(W'.cell? ⟨sb,so+j,none⟩=some (G s)∧W'.cell? ⟨ib,io+j,none⟩=some (F D id)))
          (first
            | with_reducible exact HS.out _ kY4
            | with_reducible exact HS.out _ kY3
            | with_reducible exact HS.out _ kY2
            | with_reducible exact HS.out _ kY1
            | with_reducible exact HS.out _ k0'
            | exact⟨xs,xi⟩
            | go_keep)
          (fail)
         all_goals
          go_wp2_with fail
          go_roundg (sl-(j+1))
          case measure=>omega
          case rel=>exact⟨j+1,7,rfl,by go_num,by omega,by omega,kY4,.inr ⟨by decide,by rw[HL.out,HDS.out,HDI.out];exact congrArg Prod.fst (gq hnf)⟩⟩
      ·have HTH:=aa (show bg N E ((id::I.drop (j+1)).headD 0)=none from oO hN hE)
       have HEA:Hid (∀u,Below w.heap.size w u→Calls Tryz.prog 7 #[Q #[C na nl nc,C ea el ec,F D next],F D id] u fun e w'=>(e=O (P none))∧Below u.heap.size u w'):=fun u ku=>by
        refine(fA E na nl nc ea el ec next id u (HGR.out.2.1.below ku)).mono ?_
        rintro e w' ⟨hend,hb⟩
        rcases hend with⟨hno,rfl⟩ | ⟨i,x,b',off',_,hi,hid,rfl⟩
        ·exact⟨rfl,hb⟩
        ·exact absurd (List.mem_map.2 ⟨x,List.mem_of_getElem? hi,hid⟩) hE
       go_region_held3 (fun W'=>((W'.cell? ⟨w.heap.size,0,none⟩=some (C na nl nc)∧W'.cell? ⟨w.heap.size,1,none⟩=some (C ea el ec)∧W'.cell? ⟨w.heap.size,2,none⟩=some (F D next))∧W'.cell? ⟨ib,io+j,none⟩=some (F D id)))
        (first
          | with_reducible exact HS10.out _ kz1
          | with_reducible exact HS10.out _ kz0
          | exact⟨⟨g0,g1,g2⟩,xi⟩
          | go_keep)
        (first
          | (go_at_call 7;go_fit (HEA.out u9.drew (af hW9 ((H _ _).drew)));rintro e u7 ⟨rfl,h7⟩;have kv:Below u9.heap.size u9 u7:=((H _ _).drew).trans h7;have kz1:Below u2.heap.size u2 u7:=kz9.trans (kv.mono kz9.size)))
       all_goals
        have kv0:=af kw9 kv
        have kzz:=kz1
        have sc2:=HSC2.out
        have ic2:=HIC2.out
        clear g0 g1 g2 xi
        have hVs:wr.heap.size≤u7.heap.size:=kv0.size
        have HM1:Hid (ch u7 u2.heap.size (f1L L)):=HMM1.out.of (kv0.block _ (by omega))
        have HM2:Hid (ch u7 (u2.heap.size+1) (f2L L)):=HMM2.out.of (kv0.block _ (by omega))
        have hm1V:u2.heap.size<u7.drew.heap.size:=by show u2.heap.size<u7.heap.size;omega
        have xs:=(kzz.cell (p:=⟨sb,so+j,none⟩) hsb2).trans sc2
        have hsbV:sb<u7.heap.size:=K hsb2 kzz.size
        have hlk:=HM1.out.ints.look s
        have HBW:=aa kzz
        rcases mB L s with⟨hz,hnf⟩ | ⟨hz,hnf⟩
        ·rw[hz] at hlk
         go_upto_region 18 with fail
         clear xs hlk
         obtain⟨st1,e1,o1,hr1,hs1⟩:=bw (w:=u7.drew) (HM1.out.of rfl) s 0
         obtain⟨o2,hr2,hM1⟩:=hs1 (a7 u7.drew u2.heap.size o1) (aN hm1V o1)
         obtain⟨Y1,hY1⟩:∃z,z=a7 u7.drew u2.heap.size o1:=⟨_,rfl⟩
         rw[←hY1] at hr1 hr2
         obtain⟨Y2,hY2⟩:∃z,z=a7 Y1 u2.heap.size o2:=⟨_,rfl⟩
         rw[←hY2] at hr2
         have hz1:Y1.heap.size=u7.heap.size:=by rw[hY1,aM];rfl
         have hz2:Y2.heap.size=u7.heap.size:=by rw[hY2,aM];exact hz1
         have k0':Below u2.heap.size u2 u7.drew:=HBW.out.trans ((H _ _).drew)
         have kY1:Below u2.heap.size u2 Y1:=by rw[hY1];exact k0'.trans (aT _ _ _ _ (J _))
         have kY2:Below u2.heap.size u2 Y2:=by rw[hY2];exact kY1.trans (aT _ _ _ _ (J _))
         have hM12:ch Y2 u2.heap.size (fun q=>if q=s then some 0 else f1L L q):=hM1 Y2 (by rw[hY2];exact aN (by omega) o2)
         have hM22:ch Y2 (u2.heap.size+1) (f2L L):=HM2.out.of (by rw[hY2,aG _ _ _ _ (by omega),hY1,aG _ _ _ _ (by omega)];rfl)
         obtain⟨st2,e2,o3,hr3,hs3⟩:=bw hM22 s id
         obtain⟨o4,hr4,hM2⟩:=hs3 (a7 Y2 (u2.heap.size+1) o3) (aN (by omega) o3)
         obtain⟨Y3,hY3⟩:∃z,z=a7 Y2 (u2.heap.size+1) o3:=⟨_,rfl⟩
         rw[←hY3] at hr3 hr4
         obtain⟨Y4,hY4⟩:∃z,z=a7 Y3 (u2.heap.size+1) o4:=⟨_,rfl⟩
         rw[←hY4] at hr4
         have hz3:Y3.heap.size=u7.heap.size:=by rw[hY3,aM];exact hz2
         have hz4:Y4.heap.size=u7.heap.size:=by rw[hY4,aM];exact hz3
         have kY3:Below u2.heap.size u2 Y3:=by rw[hY3];exact kY2.trans (aT _ _ _ _ (by omega))
         have kY4:Below u2.heap.size u2 Y4:=by rw[hY4];exact kY3.trans (aT _ _ _ _ (by omega))
         have HF1:Hid (ch Y4 u2.heap.size (fun q=>if q=s then some 0 else f1L L q)):=hM12.of (by rw[hY4,aG _ _ _ _ (by omega),hY3,aG _ _ _ _ (by omega)])
         have HF2:Hid (ch Y4 (u2.heap.size+1) (fun q=>if q=s then some id else f2L L q)):=hM2 Y4 (by rw[hY4];exact aN (by omega) o4)
         have D0:Below u7.heap.size u7 u7.drew:=(H _ _).drew
         have HS:Hid (∀u,Below u2.heap.size u2 u→(u.cell? ⟨sb,so+j,none⟩=some (G s)∧u.cell? ⟨ib,io+j,none⟩=some (F D id))):=fun u ku=>⟨(ku.cell (p:=⟨sb,so+j,none⟩) hsb2).trans sc2,(ku.cell (p:=⟨ib,io+j,none⟩) hib2).trans ic2⟩
         obtain⟨xs,xi⟩:=HS.out u7 HBW.out
         clear hs1 hs3 hM1 hM2 hM12 hM22 hY1 hY2 hY3 hY4
         go_region_held3 (fun W'=>(W'.cell? ⟨sb,so+j,none⟩=some (G s)∧W'.cell? ⟨ib,io+j,none⟩=some (F D id)))
          (first
            | with_reducible exact HS.out _ kY4
            | with_reducible exact HS.out _ kY3
            | with_reducible exact HS.out _ kY2
            | with_reducible exact HS.out _ kY1
            | with_reducible exact HS.out _ k0'
            | exact⟨xs,xi⟩
            | go_keep)
          (fail)
         all_goals
          go_wp2_with fail
          go_roundg (sl-(j+1))
          case measure=>omega
          case rel=>exact⟨j+1,5,rfl,by go_num,by omega,by omega,kY4,.inr ⟨by decide,by rw[HL.out,HDS.out,HDI.out];exact congrArg Prod.fst (pI hnf HTH.out)⟩⟩
        ·obtain⟨fv,hfv⟩:∃z,z=(f1L L s).getD 0:=⟨_,rfl⟩
         rw[←hfv] at hlk hz
         have hz':(fv != 0)=true:=by simp[hz]
         go_upto_region 18 with fail
         clear xs hlk hz hz' hfv
         obtain⟨st1,e1,o1,hr1,hs1⟩:=bw (w:=u7.drew) (HM1.out.of rfl) s 0
         obtain⟨o2,hr2,hM1⟩:=hs1 (a7 u7.drew u2.heap.size o1) (aN hm1V o1)
         obtain⟨Y1,hY1⟩:∃z,z=a7 u7.drew u2.heap.size o1:=⟨_,rfl⟩
         rw[←hY1] at hr1 hr2
         obtain⟨Y2,hY2⟩:∃z,z=a7 Y1 u2.heap.size o2:=⟨_,rfl⟩
         rw[←hY2] at hr2
         have hz1:Y1.heap.size=u7.heap.size:=by rw[hY1,aM];rfl
         have hz2:Y2.heap.size=u7.heap.size:=by rw[hY2,aM];exact hz1
         have k0':Below u2.heap.size u2 u7.drew:=HBW.out.trans ((H _ _).drew)
         have kY1:Below u2.heap.size u2 Y1:=by rw[hY1];exact k0'.trans (aT _ _ _ _ (J _))
         have kY2:Below u2.heap.size u2 Y2:=by rw[hY2];exact kY1.trans (aT _ _ _ _ (J _))
         have hM12:ch Y2 u2.heap.size (fun q=>if q=s then some 0 else f1L L q):=hM1 Y2 (by rw[hY2];exact aN (by omega) o2)
         have hM22:ch Y2 (u2.heap.size+1) (f2L L):=HM2.out.of (by rw[hY2,aG _ _ _ _ (by omega),hY1,aG _ _ _ _ (by omega)];rfl)
         obtain⟨st2,e2,o3,hr3,hs3⟩:=bw hM22 s id
         obtain⟨o4,hr4,hM2⟩:=hs3 (a7 Y2 (u2.heap.size+1) o3) (aN (by omega) o3)
         obtain⟨Y3,hY3⟩:∃z,z=a7 Y2 (u2.heap.size+1) o3:=⟨_,rfl⟩
         rw[←hY3] at hr3 hr4
         obtain⟨Y4,hY4⟩:∃z,z=a7 Y3 (u2.heap.size+1) o4:=⟨_,rfl⟩
         rw[←hY4] at hr4
         have hz3:Y3.heap.size=u7.heap.size:=by rw[hY3,aM];exact hz2
         have hz4:Y4.heap.size=u7.heap.size:=by rw[hY4,aM];exact hz3
         have kY3:Below u2.heap.size u2 Y3:=by rw[hY3];exact kY2.trans (aT _ _ _ _ (by omega))
         have kY4:Below u2.heap.size u2 Y4:=by rw[hY4];exact kY3.trans (aT _ _ _ _ (by omega))
         have HF1:Hid (ch Y4 u2.heap.size (fun q=>if q=s then some 0 else f1L L q)):=hM12.of (by rw[hY4,aG _ _ _ _ (by omega),hY3,aG _ _ _ _ (by omega)])
         have HF2:Hid (ch Y4 (u2.heap.size+1) (fun q=>if q=s then some id else f2L L q)):=hM2 Y4 (by rw[hY4];exact aN (by omega) o4)
         have D0:Below u7.heap.size u7 u7.drew:=(H _ _).drew
         have HS:Hid (∀u,Below u2.heap.size u2 u→(u.cell? ⟨sb,so+j,none⟩=some (G s)∧u.cell? ⟨ib,io+j,none⟩=some (F D id))):=fun u ku=>⟨(ku.cell (p:=⟨sb,so+j,none⟩) hsb2).trans sc2,(ku.cell (p:=⟨ib,io+j,none⟩) hib2).trans ic2⟩
         obtain⟨xs,xi⟩:=HS.out u7 HBW.out
         clear hs1 hs3 hM1 hM2 hM12 hM22 hY1 hY2 hY3 hY4
         go_region_held3 (fun W'=>(W'.cell? ⟨sb,so+j,none⟩=some (G s)∧W'.cell? ⟨ib,io+j,none⟩=some (F D id)))
          (first
            | with_reducible exact HS.out _ kY4
            | with_reducible exact HS.out _ kY3
            | with_reducible exact HS.out _ kY2
            | with_reducible exact HS.out _ kY1
            | with_reducible exact HS.out _ k0'
            | exact⟨xs,xi⟩
            | go_keep)
          (fail)
         all_goals
          go_wp2_with fail
          go_roundg (sl-(j+1))
          case measure=>omega
          case rel=>exact⟨j+1,7,rfl,by go_num,by omega,by omega,kY4,.inr ⟨by decide,by rw[HL.out,HDS.out,HDI.out];exact congrArg Prod.fst (gq hnf)⟩⟩
   ·skip
    have hjl:¬(j:Int)<(sl:Int):=by omega
    have hLL:BF=(0,L):=by rw[HL.out,List.drop_eq_nil_of_le (by have:=HSL.out.1;omega)];rfl
    obtain⟨hpq0,henv,hvt,hth⟩:=HQ.out (by first | rfl | trivial)
    have hpq:aA (fQ w) L q:=by rw[hLL] at hpq0;exact hpq0
    have HERR:Hid (ER=bi (aO q) 6 (.node k (.node vk vn vs Lv) nm A)):=HER.out.trans (qj h30 (by rw[hLL]))
    have hBv:B≤wr.heap.size:=Nat.le_trans HBB.out HWV.out.size
    have hTv:=HTB.out.below (HWV.out.mono HBB.out)
    have HCT:=aa (gQ (B:=B) (fun s=>vb hpq s) 6 wr wr k vk vn vs va vl vc nm a l c Lv A u2.heap.size 1 mx (H _ _) hBv hTv (HTA.out.below HWV.out) hM1.ints HIN.out ((HWV.out.cell (p:=⟨2,0,none⟩) HMX.out.2).trans HMX.out.1) (K HMX.out.2 HWV.out.size) (J _) (by decide))
    have htb:=HT1.out wr HXV.out
    obtain⟨t0,t1,t2,t3,t4,t5,t6⟩:=bV htb
    simp at t0 t1 t2 t3 t4 t5 t6
    have hts:w.heap.size+1<wr.heap.size:=lt_block' htb
    have HPQ:=aa hpq
    have HENV:=aa (show eK (aO q)∧(∀s x,aO q s=some x→Lib.validD x.typ.data.toList=true)∧(∀s x,aO q s=some x→ThG w N E x) from⟨henv,hvt,hth⟩)
    have HM2I:=aa hM2.ints
    clear htb hpq hpq0 henv hvt hth hBv hTv hM1 hM2 hLL
    go_wp2_with fail
    refine HCT.out.mono ?_
    clear t0 t1 t2 t3 t4 t5 t6
    rintro e u7 ⟨rfl,k7⟩
    obtain⟨r,hr⟩:∃z,z=bi (aO q) 6 (.node k (.node vk vn vs Lv) nm A):=⟨_,rfl⟩
    rw[←hr] at HERR ⊢
    have HW7:=aa (af HWV.out k7)
    have HV7:Hid (Below (u1.heap.size+1) X1 u7):=HVV.out.trans (k7.mono (by have:=HVV.out.size;omega))
    have HX7:Hid (Below (w.heap.size+2) W u7):=HXV.out.trans (k7.mono (by have:=HXV.out.size;rw[HZ.out] at this;exact this))
    have HM7:=aa (HM2I.out.below k7)
    have HRR:=aa hr
    clear k7 hr
    by_cases hr0:r=0
    ·subst hr0
     have hrp:=(eH 6 _ HIN.out).1 HRR.out.symm
     obtain⟨Lr,hTVe,hrlc,hrs,hrL⟩:=HVA.out HERR.out
     have HRP:=aa hrp
     have HTE:=aa (HTV.out.symm.trans hTVe)
     have HRL:=aa hrL
     have hE0:=HERR.out
     clear hrp hTVe hrL
     go_wp2_with fail
     refine(HTD.out _ HW7.out).mono ?_
     rintro e u8 ⟨rfl,k8⟩
     have HW8:=aa (af HW7.out k8)
     have HV8:Hid (Below (u1.heap.size+1) X1 u8):=HV7.out.trans (k8.mono (by have:=HV7.out.size;omega))
     have HX8:Hid (Below (w.heap.size+2) W u8):=HX7.out.trans (k8.mono (by have:=HX7.out.size;rw[HZ.out] at this;exact this))
     have HM8:=aa (HM7.out.below k8)
     have HU8:Hid (Below u1.heap.size u1 u8):=HKX.out.trans (HV8.out.mono (by omega))
     have HRL8:=aa (HRL.out.below HU8.out)
     clear k8
     have hck:Ck 6 (.node rk rn rs Lr):=by rw[←HTE.out];exact mL HENV.out.1 HENV.out.2.1 6 _ HRP.out
     have HWT:=aa (vi hck)
     have HTC:Hid (∀u,Below u8.heap.size u8 u→Calls Tryz.prog 12 #[Q #[C na nl nc,C ea el ec,F D next],.map (some (u2.heap.size+1)),Q #[F D k,F D vk,F D vn,G vs,C va vl vc,G nm,C a l c]] u fun e w'=>(∃a' l' c',e=O (vC rk rn rs a' l' c')∧l'≤c'∧am w' Lr a' l')∧Below u.heap.size u w'):=fun u ku=>by
      have h8:=gM (B:=B) (env:=aO q) (fa:=f2L L) (w0:=u8) (N:=N) (E:=E) (nc:=nc) (ec:=ec) (next:=next) (m:=u2.heap.size+1) (Nat.le_trans HBB.out HW8.out.size) (HTB.out.below (HW8.out.mono HBB.out)) (HGR.out.1.below HW8.out) (HGR.out.2.1.below HW8.out) HM8.out (fun s=>uZ HPQ.out s) HENV.out.1 HENV.out.2.1 (fun s x hx=>(HENV.out.2.2 s x hx).below HW8.out) (fun i j x y hx hy e=>oV (n7 HG0.out).riseE i j x y hx hy e) 6 u k vk vn vs va vl vc nm a l c Lv A ku (HTA.out.below HW8.out) HRP.out
      refine h8.mono ?_
      rintro e w' ⟨⟨k',n',s',a',l',c',L',rfl,ht',hlc',_,hL'⟩,hb⟩
      rw[HTE.out] at ht'
      injection ht' with e1 e2 e3 e4
      subst e1 e2 e3 e4
      exact⟨⟨a',l',c',rfl,hlc',ap.lies _ _ _ hL'⟩,hb⟩
     have HSV:Hid (∀u a' l' c',Below u8.heap.size u8 u→am u Lr a' l'→Calls Tryz.prog 11 #[vC rk rn rs ra rl rc,vC rk rn rs a' l' c'] u fun e w'=>e=O (.bool true)∧Below u.heap.size u w'):=fun u a' l' c' ku hu=>iU rk rn rs Lr ra rl rc a' l' c' u HWT.out (ap.lies _ _ _ (HRL8.out.below ku)) hu
     have hvb:=(HV8.out.block u1.heap.size (by omega)).trans HVB.out
     obtain⟨p0,p1,p2,p3⟩:=ai hvb
     simp at p0 p1 p2 p3
     have hvs:u1.heap.size<u8.heap.size:=lt_block' hvb
     have hgb:=HG1.out u8 HX8.out
     obtain⟨g0,g1,g2⟩:=cj hgb
     simp at g0 g1 g2
     have hgs:w.heap.size<u8.heap.size:=lt_block' hgb
     have htb:=HT1.out u8 HX8.out
     obtain⟨t0,t1,t2,t3,t4,t5,t6⟩:=bV htb
     simp at t0 t1 t2 t3 t4 t5 t6
     have hts8:w.heap.size+1<u8.heap.size:=lt_block' htb
     clear hvb hgb htb hck
     have D0:Below u8.heap.size u8 u8.drew:=(H _ _).drew
     have HS:Hid (∀u,Below u8.heap.size u8 u→((u.cell? ⟨u1.heap.size,0,none⟩=some (F D rk)∧u.cell? ⟨u1.heap.size,1,none⟩=some (F D rn)∧u.cell? ⟨u1.heap.size,2,none⟩=some (G rs)∧u.cell? ⟨u1.heap.size,3,none⟩=some (C ra rl rc))∧(u.cell? ⟨w.heap.size,0,none⟩=some (C na nl nc)∧u.cell? ⟨w.heap.size,1,none⟩=some (C ea el ec)∧u.cell? ⟨w.heap.size,2,none⟩=some (F D next))∧(u.cell? ⟨w.heap.size+1,0,none⟩=some (F D k)∧u.cell? ⟨w.heap.size+1,1,none⟩=some (F D vk)∧u.cell? ⟨w.heap.size+1,2,none⟩=some (F D vn)∧u.cell? ⟨w.heap.size+1,3,none⟩=some (G vs)∧u.cell? ⟨w.heap.size+1,4,none⟩=some (C va vl vc)∧u.cell? ⟨w.heap.size+1,5,none⟩=some (G nm)∧u.cell? ⟨w.heap.size+1,6,none⟩=some (C a l c)))):=fun u ku=>by
      have c1':=fun o=>ku.cell (p:=⟨u1.heap.size,o,none⟩) hvs
      have c2':=fun o=>ku.cell (p:=⟨w.heap.size,o,none⟩) hgs
      have c3':=fun o=>ku.cell (p:=⟨w.heap.size+1,o,none⟩) hts8
      exact⟨⟨(c1' _).trans p0,(c1' _).trans p1,(c1' _).trans p2,(c1' _).trans p3⟩,⟨(c2' _).trans g0,(c2' _).trans g1,(c2' _).trans g2⟩,⟨(c3' _).trans t0,(c3' _).trans t1,(c3' _).trans t2,(c3' _).trans t3,(c3' _).trans t4,(c3' _).trans t5,(c3' _).trans t6⟩⟩
     go_upto_region 23 with fail
     go_region_held3 (fun W'=>((W'.cell? ⟨u1.heap.size,0,none⟩=some (F D rk)∧W'.cell? ⟨u1.heap.size,1,none⟩=some (F D rn)∧W'.cell? ⟨u1.heap.size,2,none⟩=some (G rs)∧W'.cell? ⟨u1.heap.size,3,none⟩=some (C ra rl rc))∧(W'.cell? ⟨w.heap.size,0,none⟩=some (C na nl nc)∧W'.cell? ⟨w.heap.size,1,none⟩=some (C ea el ec)∧W'.cell? ⟨w.heap.size,2,none⟩=some (F D next))∧(W'.cell? ⟨w.heap.size+1,0,none⟩=some (F D k)∧W'.cell? ⟨w.heap.size+1,1,none⟩=some (F D vk)∧W'.cell? ⟨w.heap.size+1,2,none⟩=some (F D vn)∧W'.cell? ⟨w.heap.size+1,3,none⟩=some (G vs)∧W'.cell? ⟨w.heap.size+1,4,none⟩=some (C va vl vc)∧W'.cell? ⟨w.heap.size+1,5,none⟩=some (G nm)∧W'.cell? ⟨w.heap.size+1,6,none⟩=some (C a l c))))
      (first
        | with_reducible exact HS.out _ kz2
        | with_reducible exact HS.out _ kz1
        | with_reducible exact HS.out _ D0
        | exact⟨⟨p0,p1,p2,p3⟩,⟨g0,g1,g2⟩,⟨t0,t1,t2,t3,t4,t5,t6⟩⟩
        | go_keep)
      (first
        | (go_at_call 11;go_fit (HSV.out u9 a9 l9 c9 kz1 hL9);rintro e u10 ⟨rfl,h10⟩;have kz2:Below u8.heap.size u8 u10:=kz1.trans (h10.mono kz1.size))
        | (go_at_call 12;go_fit (HTC.out u8.drew D0);rintro e u9 ⟨⟨a9,l9,c9,rfl,hlc9,hL9⟩,h9⟩;have kz1:Below u8.heap.size u8 u9:=D0.trans h9))
     all_goals
      have HWE:=aa (af HW8.out kz2)
      go_wp2_with fail
      go_ret
      exact⟨aP rfl,HWE.out⟩
    ·have hr0':(r != 0)=true:=by simp[hr0]
     have hr0'':(r==0)=false:=by simp[hr0]
     have her:=HERR.out
     obtain⟨z1,z2,z3,z4,z5,z6⟩:=HZE.out (by rw[her];exact hr0)
     subst z1 z2 z3 z4 z5 z6
     go_wp2_with fail
     refine(HTD.out _ HW7.out).mono ?_
     rintro e u4 ⟨rfl,k4⟩
     have HW4:=aa (af HW7.out k4)
     have HV4:Hid (Below (u1.heap.size+1) X1 u4):=(HV7.out).trans (k4.mono (by have:=(HV7.out).size;omega))
     clear k4
     go_wp2_with fail
     refine(HTD.out _ HW4.out).mono ?_
     rintro e u5 ⟨rfl,k5⟩
     have HW5:=aa (af HW4.out k5)
     have HV5:Hid (Below (u1.heap.size+1) X1 u5):=HV4.out.trans (k5.mono (by have:=HV4.out.size;omega))
     clear k5
     have hvb:=(HV5.out.block u1.heap.size (by omega)).trans HVB.out
     obtain⟨p0,p1,p2,p3⟩:=ai hvb
     simp at p0 p1 p2 p3
     have hvs:u1.heap.size<u5.heap.size:=lt_block' hvb
     have HNZ:=aa (fg u5)
     clear hvb
     go_wp2_with fail
     refine HNZ.out.mono ?_
     rintro e u6 ⟨rfl,k6⟩
     have HW6:=aa (af HW5.out k6)
     clear k6
     go_wp2_with fail
     go_ret
     exact⟨aP rfl,HW6.out⟩
  ·have hb0':(bad != 0)=true:=by simp[hb0]
   have hb0'':(bad==0)=false:=by simp[hb0]
   have her:ER=bad:=by rw[HER.out,sL h30 (by rw[hbf];exact hb0)];exact hbf
   obtain⟨z1,z2,z3,z4,z5,z6⟩:=HZE.out (by rw[her];exact hb0)
   subst z1 z2 z3 z4 z5 z6
   go_wp2_with fail
   refine(HTD.out _ HWV.out).mono ?_
   rintro e u4 ⟨rfl,k4⟩
   have HW4:=aa (af HWV.out k4)
   have HV4:Hid (Below (u1.heap.size+1) X1 u4):=(HVV.out).trans (k4.mono (by have:=(HVV.out).size;omega))
   clear k4
   go_wp2_with fail
   refine(HTD.out _ HW4.out).mono ?_
   rintro e u5 ⟨rfl,k5⟩
   have HW5:=aa (af HW4.out k5)
   have HV5:Hid (Below (u1.heap.size+1) X1 u5):=HV4.out.trans (k5.mono (by have:=HV4.out.size;omega))
   clear k5
   have hvb:=(HV5.out.block u1.heap.size (by omega)).trans HVB.out
   obtain⟨p0,p1,p2,p3⟩:=ai hvb
   simp at p0 p1 p2 p3
   have hvs:u1.heap.size<u5.heap.size:=lt_block' hvb
   have HNZ:=aa (fg u5)
   clear hvb
   go_wp2_with fail
   refine HNZ.out.mono ?_
   rintro e u6 ⟨rfl,k6⟩
   have HW6:=aa (af HW5.out k6)
   clear k6
   go_wp2_with fail
   go_ret
   exact⟨aP rfl,HW6.out⟩
end Go.Proofs.YtijjpoohhgapoaaGreatDoor
