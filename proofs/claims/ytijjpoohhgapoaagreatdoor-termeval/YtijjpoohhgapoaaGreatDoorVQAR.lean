import Derived.Test.YtijjpoohhgapoaaGreatDoorVQAQ
import Derived.Test.YtijjpoohhgapoaaGreatDoorVQAJ
import Derived.Deep.CutBlock
import Derived.Test.YtijjpoohhgapoaaGreatDoorShelf2
namespace Go.Proofs.YtijjpoohhgapoaaGreatDoor
open Go.RowKit
set_option linter.unusedVariables false
set_option maxHeartbeats 4000000
set_option maxRecDepth 100000
open IntKind renaming i64 → C
open Value renaming int → D, string → F, slice → G, agg → K
open Obj renaming cells → H
open Nat renaming le_refl → I, zero_mul → N, add_zero → P
open RowKit.Below renaming refl → J
open Ending renaming returned → M
open List renaming mem_cons_self → O
def fF (W:World) (L:List T) (cs:List Value):Prop:=∀(j:Nat) (k n:Int) (s:ByteArray) (Lt:List T),L[j]? = some (.node k n s Lt)→s.size≤9223372036854775807∧cs[j*4]? = some (D C k)∧cs[j*4+1]? = some (D C n)∧cs[j*4+2]? = some (F s)∧∃a l c,cs[j*4+3]? = some (G a l c)∧l≤c∧am W Lt a l
theorem gI {W:World} {L:List T} {a:Option Addr} {l:Nat} (h:am W L a l):∃cs:List Value,cs.length=l*4∧(∀j u,cs[j]? = some u→∃ad,a=some ad∧ad.block<W.heap.size∧W.cell? (ad.add j)=some u)∧(∀u ∈ cs,u.oneCell'=true)∧fF W L cs:=by
 cases L with
 | nil=>
   unfold am at h
   subst h
   exact⟨[],rfl,(fun j u h=>by simp at h),(fun u h=>by cases h),(fun j k n s Lt h=>by simp at h)⟩
 | cons t ts=>
   have hl:=h.length.1
   have h0:=h
   unfold am at h0
   obtain⟨b,off,rfl,_,_,hb,_⟩:=h0
   obtain⟨cs,q1,q2,q3,q4⟩:=fC (t::ts) b off (by rw[←hl];exact h)
   exact⟨cs,by rw[q1,hl],fun j u hu=>⟨_,rfl,hb,by rw[d9];exact q2 j u hu⟩,q3,q4⟩
theorem fF.append {W:World} {L1 L2:List T} {c1 c2:List Value} (h1:fF W L1 c1) (h2:fF W L2 c2) (hl:c1.length=L1.length*4):fF W (L1++L2) (c1++c2):=by
 intro j k n s Lt hj
 rcases Nat.lt_or_ge j L1.length with hlt | hge
 ·rw[List.getElem?_append_left hlt] at hj
  obtain⟨a0,a1,a2,a3,a,l,c,a4,a5⟩:=h1 j k n s Lt hj
  have q:∀o u,c1[o]? = some u→(c1++c2)[o]? = some u:=fun o u hu=>by
   rw[List.getElem?_append_left (List.getElem?_eq_some_iff.1 hu).1]
   exact hu
  exact⟨a0,q _ _ a1,q _ _ a2,q _ _ a3,a,l,c,q _ _ a4,a5⟩
 ·rw[List.getElem?_append_right hge] at hj
  obtain⟨a0,a1,a2,a3,a,l,c,a4,a5⟩:=h2 (j-L1.length) k n s Lt hj
  have q:∀o u,c2[(j-L1.length)*4+o]? = some u→(c1++c2)[j*4+o]? = some u:=fun o u hu=>by
   rw[List.getElem?_append_right (by omega),hl]
   rw[show j*4+o-L1.length*4=(j-L1.length)*4+o by omega]
   exact hu
  exact⟨a0,q 0 _ a1,q 1 _ a2,q 2 _ a3,a,l,c,q 3 _ a4,a5⟩
theorem kd {W w:World} {B n:Nat} {v:Value} {cs:List Value} {L:List T} (h:w.ownsRow B 30 4 v n cs) (hn:n=L.length) (hl:L.length≤9223372036854775807) (hc:fF W L cs) (hk:∀Lt a l,am W Lt a l→am w Lt a l) :
 ∃a c,v=G a n c∧n≤c∧am w L a n:=by
 rcases h.2 with⟨rfl,rfl⟩ | ⟨g,cap,cur,rfl,h1,h2,h3,h4,h5,h6⟩
 ·have:L = []:=List.length_eq_zero_iff.1 hn.symm
  subst this
  exact⟨none,0,rfl,I _,by unfold am;rfl⟩
 ·refine⟨_,cap,rfl,h3,?_⟩
  subst hn
  have hg':g<w.heap.size:=(Array.getElem?_eq_some_iff.1 h2).1
  have q:∀o u,cs[o]? = some u→w.cell? ⟨g,o,none⟩=some u:=fun o u hu=>by
   rw[←h6,List.getElem?_take] at hu
   rw[ac h2]
   split at hu
   ·simpa using hu
   ·cases hu
  have all:∀m,m≤L.length→am w (L.drop (L.length-m)) (some ⟨g,(L.length-m)*4,none⟩) m:=by
   intro m
   induction m with
   | zero=>
     intro _
     rw[Nat.sub_zero,List.drop_length]
     unfold am
     rfl
   | succ m ih=>
     intro hm
     have ih:=ih (by omega)
     obtain⟨j,hj⟩:∃j,j=L.length-(m+1):=⟨_,rfl⟩
     have hj':L.length-m=j+1:=by omega
     have hjl:j<L.length:=by omega
     have hm63:m+1≤9223372036854775807:=by omega
     have hlen:(L.drop (j+1)).length=m:=by rw[List.length_drop];omega
     rw[←hj]
     rw[hj'] at ih
     obtain⟨t,ht,hd⟩:=aF (L:=L) (i:=j) (by omega)
     obtain⟨k,n,s,Lt⟩:=t
     obtain⟨a0,a1,a2,a3,a,l,c,a4,a5,a6⟩:=hc j k n s Lt ht
     rw[hd]
     unfold am
     refine⟨g,j*4,rfl,by rw[hlen],hm63,hg',?_,?_⟩
     ·unfold bY
      exact⟨a0,a,l,c,q _ _ a1,q _ _ a2,q _ _ a3,q _ _ a4,a5,hk _ _ _ a6⟩
     ·rw[hlen]
      rw[show j*4+4=(j+1)*4 from by omega]
      exact ih
  have:=all L.length (I _)
  rw[Nat.sub_self,List.drop_zero,N] at this
  exact this
theorem pO:∀(L1 L2:List T),wtL (L1++L2)+1=wtL L1+wtL L2
 | [],L2=>by
   rw[List.nil_append,wtL]
   omega
 | t::ts,L2=>by
   have:=pO ts L2
   rw[List.cons_append,wtL,wtL]
   omega
def zT (z:Int × Int):T:=.node z.1 z.2 ⟨#[]⟩ []
def zC (z:Int × Int):List Value:=[D C z.1,D C z.2,F ⟨#[]⟩,G none 0 0]
def mj (zs:List (Int × Int)):List Value:=(zs.map zC).flatten
theorem qY (zs:List (Int × Int)) (z:Int × Int):mj (zs ++ [z])=mj zs++zC z:=by simp[mj]
theorem qG {w:World} {B:Nat} {v:Value} {zs:List (Int × Int)} (h:w.ownsRow B 30 4 v zs.length (mj zs)) (hz:zs.length≤9223372036854775807):∃a c,v=G a zs.length c∧zs.length≤c∧ap fI w (zs.map zT) a zs.length:=by
 obtain⟨a,c,h1,h2,h3⟩:=kd (W:=w) (L:=zs.map zT) h (by simp) (by simpa using hz) (fun j k n s Lt hj=>by
  rw[List.getElem?_map] at hj
  cases hx:zs[j]? with
  | none=>rw[hx] at hj;cases hj
  | some z=>
    rw[hx] at hj
    have e:zT z = .node k n s Lt:=by simpa using hj
    unfold zT at e
    injection e with e1 e2 e3 e4
    subst e1 e2 e3 e4
    have g:=fun i u hu=>fh zC 4 (fun _=>rfl) zs j i z u hx hu
    exact⟨by decide,g 0 _ rfl,g 1 _ rfl,g 2 _ rfl,none,0,0,g 3 _ rfl,I _,by unfold am;rfl⟩) (fun _ _ _ h=>h)
 exact⟨a,c,h1,h2,am.lie _ _ _ h3⟩
def mZ (x:T):T→T
 | .node k _ _ L=>if k=4 then bG 1 (L.map (cq x)) else aw
theorem gY (m:Int) (all:Nat):∀(zs:List (Int × Int)) (o:Nat),∃z,bA m all (zs.map zT) o=zT z
 | [],o=>by
   show ∃z,(if o<all then aw else .node 1 (1-m) ⟨#[]⟩ [])=zT z
   split
   ·exact⟨(0,0),rfl⟩
   ·exact⟨(1,1-m),rfl⟩
 | z::zs,o=>by
   show ∃y,(if z.1=1 then (if z.2=m then zT z else bA m all (zs.map zT) (o+1)) else bA m all (zs.map zT) o)=zT y
   split
   ·split
    ·exact⟨z,rfl⟩
    ·exact gY m all zs (o+1)
   ·exact gY m all zs o
theorem rJ (A:Nat→Prop) (L:List T) (a:Option Addr) (l c:Nat) (w:World) (hL:ap A w L a l) (hl:l=2) (hwt:∀t ∈ L,wtT t≤1099511627000) (hll:∀t ∈ L,∀k n s Lt,t = .node k n s Lt→Lt.length≤1000):Calls Tryz.prog 48 #[G a l c] w fun e w'=>aL A w w' (on2 mZ L) e∧Below w.heap.size w w':=by
 have hlen:=hL.len.1
 obtain⟨b,off,k0,n0,s0,L0,a0,l0,c0,ha,hAb,hbl,hd0,x0,x1,x2,x3,hlc0,hs0,hL0⟩:=hL.at (i:=0) (by omega)
 obtain⟨b',off',k1,n1,s1,L1,a1,l1,c1,ha',-,-,hd1,z0,z1,z2,z3,hlc1,hs1,hL1⟩:=hL.at (i:=1) (by omega)
 subst ha
 injection ha' with ha'
 injection ha' with e1 e2
 subst e1 e2
 rw[N,P] at x0 x1 x2 x3
 rw[Nat.one_mul] at z0 z1 z2 z3
 have hLL:L = .node k0 n0 s0 L0 :: .node k1 n1 s1 L1::L.drop 2:=by
  have e0:L = .node k0 n0 s0 L0::L.drop 1:=by simpa using hd0
  rw[hd1] at e0
  exact e0
 have e1:on2 mZ L=if k1=4 then bG 1 (L1.map (cq (.node k0 n0 s0 L0))) else aw:=by rw[hLL];rfl
 rw[e1]
 have hy:=ae w (H #[D C 0,D C 0,F ⟨#[]⟩,G none 0 0] 30)
 have hz:(w.alloc (H #[D C 0,D C 0,F ⟨#[]⟩,G none 0 0] 30)).heap.size=w.heap.size+1:=by simp
 have hb0:Below w.heap.size w (w.alloc (H #[D C 0,D C 0,F ⟨#[]⟩,G none 0 0] 30)):=(J _ _).alloc (I _) _
 have HY:=aa hy
 have Z0:=aa hz
 have B0:=aa hb0
 have HS0:Hid (∀W',Below w.heap.size w W'→(W'.cell? ⟨b,off,none⟩=some (D C k0)∧W'.cell? ⟨b,off+1,none⟩=some (D C n0)∧W'.cell? ⟨b,off+2,none⟩=some (F s0)∧W'.cell? ⟨b,off+3,none⟩=some (G a0 l0 c0))∧(W'.cell? ⟨b,off+4,none⟩=some (D C k1)∧W'.cell? ⟨b,off+5,none⟩=some (D C n1)∧W'.cell? ⟨b,off+6,none⟩=some (F s1)∧W'.cell? ⟨b,off+7,none⟩=some (G a1 l1 c1))):=fun W' kk=>by
  have q:∀o,W'.cell? ⟨b,o,none⟩=w.cell? ⟨b,o,none⟩:=fun o=>kk.cell (p:=⟨b,o,none⟩) hbl
  exact⟨⟨(q _).trans x0,(q _).trans x1,(q _).trans x2,(q _).trans x3⟩,⟨(q _).trans z0,(q _).trans z1,(q _).trans z2,(q _).trans z3⟩⟩
 have hwt0:=hwt (.node k0 n0 s0 L0) (by rw[hLL];exact O ..)
 have hln:=hll (.node k1 n1 s1 L1) (by rw[hLL];exact List.mem_cons_of_mem _ (O ..)) k1 n1 s1 L1 rfl
 have HLW:Hid (wtL L0+2≤1099511627776):=by unfold wtT at hwt0;show wtL L0+2≤_;omega
 have HL0:=aa hL0
 have HL1:=aa hL1
 have H1L:=aa hL1.len.1
 have hl1:l1≤1000:=by rw[H1L.out];exact hln
 have HCC:=aa (show l0≤c0∧s0.size≤9223372036854775807 from⟨hlc0,hs0⟩)
 clear x0 x1 x2 x3 z0 z1 z2 z3 hd0 hd1 hL0 hL1 hL hLL hlen hy hz hb0 hlc0 hlc1 e1 hwt hll hwt0 hln hs0 hs1
 subst hl
 obtain⟨⟨y0,y1,y2,y3⟩,⟨v0,v1,v2,v3⟩⟩:=HS0.out (w.alloc (H #[D C 0,D C 0,F ⟨#[]⟩,G none 0 0] 30)) B0.out
 have hbW:b<(w.alloc (H #[D C 0,D C 0,F ⟨#[]⟩,G none 0 0] 30)).heap.size:=by rw[Z0.out];omega
 by_cases hk:k1=4
 ·have hk':(k1 != 4)=false:=by simp[hk]
  rw[if_pos hk]
  obtain⟨TG,hTG⟩:∃z,z=L1.map (cq (.node k0 n0 s0 L0)):=⟨_,rfl⟩
  rw[←hTG]
  have HTG:=aa (show TG=([]:List (Int × Int)).map zT++(L1.drop 0).map (cq (.node k0 n0 s0 L0)) from hTG)
  clear hTG hk
  obtain⟨i0,hi0,hiz,his,hib⟩:=dw
  have HI0:=aa hi0
  have HIZ:=aa hiz
  have HIS:=aa his
  have HIB:=aa hib
  clear hi0 hiz his hib
  go_enter Tryz.func48,Tryz.ntmps48
  go_wp2_with fail
  clear y0 y1 y2 y3 v0 v1 v2 v3 hbW
  generalize w.alloc (H #[D C 0,D C 0,F ⟨#[]⟩,G none 0 0] 30)=W0 at B0 Z0 HY ⊢
  go_loopg [3,17] l1 (fun q s3 s17 wr=>∃(i:Nat) (zs:List (Int × Int)) (ov:Value),i≤l1∧l1-i≤q∧ov=s3∧s17=D C i∧zs.length=i∧wr.ownsRow (w.heap.size+1) 30 4 ov i (mj zs)∧Below (w.heap.size+1) W0 wr∧TG=zs.map zT++(L1.drop i).map (cq (.node k0 n0 s0 L0)))
  case atStart=>exact⟨0,[],G none 0 0,Nat.zero_le _,by omega,rfl,rfl,rfl,World.ownsRow_nil _ _ _ _,J _ _,HTG.out⟩
  case round=>
   clear HTG
   obtain⟨i,zs,ov,hi,hg,rfl,rfl,hzs,hown,hbw,htg⟩:=hrel
   have HOWN:=aa hown
   have HTG:=aa htg
   have HZS:=aa hzs
   have hzw:w.heap.size+1≤wr.heap.size:=by have:=hbw.size;rw[Z0.out] at this;exact this
   have hw0:Below w.heap.size w wr:=B0.out.trans (hbw.mono (by omega))
   clear hown htg hzs
   by_cases hlt:i<l1
   ·obtain⟨b2,off2,k,n,s,Lt,a2,l2,c2,ha2,-,hbl2,hd,e0,e1,e2,e3,hlc2,hs2,hLt⟩:=HL1.out.at (i:=i) hlt
    subst ha2
    have q2:∀o,wr.cell? ⟨b2,o,none⟩=w.cell? ⟨b2,o,none⟩:=fun o=>hw0.cell (p:=⟨b2,o,none⟩) hbl2
    have d0:=(q2 _).trans e0
    have d1:=(q2 _).trans e1
    have d2:=(q2 _).trans e2
    have d3:=(q2 _).trans e3
    have hil:(i:Int)<l1:=by omega
    obtain⟨q1,hq1⟩:∃z,z=(cI (aU (.node k0 n0 s0 L0) (.node k n s Lt))).1:=⟨_,rfl⟩
    obtain⟨q2',hq2⟩:∃z,z=(cI (aU (.node k0 n0 s0 L0) (.node k n s Lt))).2:=⟨_,rfl⟩
    have HC:Hid (∀W,Below w.heap.size w W→Calls Tryz.prog 41 #[vC k0 n0 s0 a0 l0 c0,vC k n s a2 l2 c2] W fun e w'=>e=M (vC q1 q2' ⟨#[]⟩ none 0 0)∧Below W.heap.size W w'):=fun W kk=>by
     have:=nk k0 n0 s0 a0 l0 c0 k n s a2 l2 c2 L0 Lt W (ap.lies _ _ _ (HL0.out.below kk)) (ap.lies _ _ _ (hLt.below kk)) HCC.out.1 hlc2 HCC.out.2 hs2 HLW.out
     rw[fY,←hq1,←hq2] at this
     exact this
    have HTG2:=aa (show TG=(zs ++ [(q1,q2')]).map zT++(L1.drop (i+1)).map (cq (.node k0 n0 s0 L0)) by
     rw[HTG.out,hd,List.map_append,List.map_cons,List.append_assoc]
     congr 1
     rw[hq1,hq2]
     rfl)
    have hkx:Below wr.heap.size wr (wr.alloc (H #[D C k,D C n,F s,G a2 l2 c2] 30)):=(J _ _).alloc (I _) _
    have hxb:=ae wr (H #[D C k,D C n,F s,G a2 l2 c2] 30)
    have hzx:(wr.alloc (H #[D C k,D C n,F s,G a2 l2 c2] 30)).heap.size=wr.heap.size+1:=by simp
    have HOX:=aa (HOWN.out.alloc (H #[D C k,D C n,F s,G a2 l2 c2] 30))
    have HBX:=aa (hbw.trans (hkx.mono hzw))
    have HXB:=aa hxb
    have HZX:=aa hzx
    have hbx:Below w.heap.size w (wr.alloc (H #[D C k,D C n,F s,G a2 l2 c2] 30)):=hw0.trans (hkx.mono hw0.size)
    have HBW:=aa hbx
    clear e0 e1 e2 e3 q2 hd hLt hs2 hlc2 hq1 hq2 HTG hkx hxb hzx HOWN hbw hw0 hbx
    go_upto_region 7 with fail
    clear d0 d1 d2 d3
    generalize wr.alloc (H #[D C k,D C n,F s,G a2 l2 c2] 30)=WX at HOX HBX HXB HZX HBW ⊢
    obtain⟨⟨y0,y1,y2,y3⟩,-⟩:=HS0.out WX HBW.out
    obtain⟨g0,g1,g2,g3⟩:=ai HXB.out
    simp at g0 g1 g2 g3
    have hbX:b<WX.heap.size:=by rw[HZX.out];omega
    have hwX:wr.heap.size<WX.heap.size:=by rw[HZX.out];omega
    have HBy:(i+1)*56≤140737488355328:=by omega
    have HBm:i+1≤maxLen:=by unfold maxLen;omega
    have D0:Below WX.heap.size WX WX.drew:=(J _ _).drew
    have hbd:Below w.heap.size w WX.drew:=af HBW.out D0
    go_region_law (first
     | (refine step_append_lies _ (by rfl) _ _ _ (by rfl) (w.heap.size+1) 30 i0 _ 4 56 Tryz.underlying28 HI0.out HIZ.out HIS.out HIB.out rfl (by omega) ov i (mj zs) (by rfl) (hown2.alloc _) ⟨u1.heap.size,0,none⟩ 1 1 (zC (q1,q2')) (by rfl) (by rfl) (World.news_of_block (cs:=#[D C q1,D C q2',F ⟨#[]⟩,G none 0 0]) (t:=30) (fr:=(0,0)) (ae u1 _)) (by simp[zC,Value.oneCell']) (by omega) HBm HBy (by simp;omega) (u1.heap.size+1) (by simp) ?_;intro gg cap w5 hown5 hgrow hat5 hlt5)
     | (go_simp
        go_at_call 41
        refine(HC.out _ hbd).mono ?_
        rintro e u1 ⟨rfl,k1⟩
        have hu1:WX.heap.size≤u1.heap.size:=k1.size
        have kk1:Below WX.heap.size WX u1:=D0.trans k1
        have hown2:u1.ownsRow (w.heap.size+1) 30 4 ov i (mj zs):=da HOX.out (fun g _ hgl=>kk1.block g hgl)))
    all_goals
     have hb6:Below (w.heap.size+1) W0 w5:=((HBX.out.trans (kk1.mono (by rw[HZX.out];omega))).alloc (by rw[HZX.out] at hu1;omega) _).grown hgrow (by simp;rw[HZX.out] at hu1;omega) (fun j hj=>(hown2.lt j hj).1)
     have HOWN5:Hid (w5.ownsRow (w.heap.size+1) 30 4 (G (some ⟨gg,0,none⟩) (i+1) cap) (i+1) (mj (zs ++ [(q1,q2')]))):=by
      rw[qY]
      exact hown5
     have HB6:=aa hb6
     clear hb6 hown5 hgrow hat5 hlt5 y0 y1 y2 y3 g0 g1 g2 g3 hown2 k1 kk1 hu1
     go_wp2_with fail
     go_roundg (l1-(i+1))
     case measure=>omega
     case rel=>exact⟨i+1,zs ++ [(q1,q2')],G (some ⟨gg,0,none⟩) (i+1) cap,by omega,by omega,rfl,by go_num,by rw[List.length_append,HZS.out];rfl,HOWN5.out,HB6.out,HTG2.out⟩
   ·have hil:¬(i:Int)<l1:=by omega
    have htg:TG=zs.map zT:=by
     rw[HTG.out,List.drop_eq_nil_of_le (by have:=H1L.out;omega)]
     simp
    have hz2:wr.ownsRow (w.heap.size+1) 30 4 ov zs.length (mj zs):=by rw[HZS.out];exact HOWN.out
    obtain⟨oa,oc,hov,hoc,hlz⟩:=qG hz2 (by rw[HZS.out];omega)
    rw[HZS.out] at hov hoc hlz
    subst hov
    rw[←htg] at hlz
    obtain⟨z,hz⟩:=gY 1 TG.length zs 0
    have hlean:bG 1 TG=zT z:=by unfold bG;rw[←htg] at hz;exact hz
    have HLZ:=aa hlz
    have HLN:=aa hlean
    have HBW:=aa hbw
    have HW0:=aa hw0
    clear htg hz2 hz hlean HTG HOWN hlz hbw hw0
    go_wp2_with fail
    refine(lO 1 wr).mono ?_
    rintro e u1 ⟨rfl,hu1⟩
    have hku:Below wr.heap.size wr u1:=by rw[hu1];exact(J _ _).alloc (I _) _
    have hzu:u1.heap.size=wr.heap.size+1:=by rw[hu1];simp
    have hcu:u1.cell? ⟨wr.heap.size,0,none⟩=some (D C 1):=by rw[hu1];exact ac (ae wr _) 0
    have HC:=aa (kj fI TG oa i oc u1 (HLZ.out.below hku) 1 wr.heap.size (by rw[hzu];omega) hcu (by omega) (by omega))
    have HKU:=aa hku
    have HZU:=aa hzu
    clear hu1 hku hzu hcu
    go_wp2_with fail
    refine HC.out.mono ?_
    rintro e u2 ⟨⟨kz,nz,sz,az,lz,cz,Lz,rfl,htz,hlcz,-,hLz⟩,k2⟩
    rw[HLN.out] at htz
    unfold zT at htz
    injection htz with t1 t2 t3 t4
    subst t1 t2 t3 t4
    have hlz0:lz=0:=by unfold ap at hLz;exact hLz
    subst hlz0
    have kk2:Below wr.heap.size wr u2:=af HKU.out k2
    have hb1:=(kk2.block w.heap.size (by omega)).trans ((HBW.out.block w.heap.size (by omega)).trans HY.out)
    obtain⟨r0,r1,r2,r3⟩:=ai hb1
    obtain⟨fr0,fr1,fr2,fr3⟩:=aq hb1
    simp at r0 r1 r2 r3
    have hs1:w.heap.size<u2.heap.size:=by have:=kk2.size;omega
    have HB1:=aa hb1
    have HK2:=aa (af HW0.out kk2)
    clear hb1 kk2 k2 hLz
    go_wp2_with fail
    have eP:∀X:World,(((X.setCell ⟨w.heap.size,0,none⟩ (D C z.fst)).setCell ⟨w.heap.size,1,none⟩ (D C z.snd)).setCell ⟨w.heap.size,2,none⟩ (F ⟨#[]⟩)).setCell ⟨w.heap.size,3,none⟩ (G az 0 cz)=au X (w.heap.size) 0 [D C z.fst,D C z.snd,F ⟨#[]⟩,G az 0 cz]:=fun _=>rfl
    rw[eP]
    have E:=dh HB1.out rfl (D C z.fst) (D C z.snd) (F ⟨#[]⟩) (G az 0 cz)
    have hbb:Below w.heap.size w (au u2 (w.heap.size) 0 [D C z.fst,D C z.snd,F ⟨#[]⟩,G az 0 cz]):=HK2.out.trans ((aE (w.heap.size) _ _ u2).mono (I _))
    have hoth:∀j,j≠w.heap.size→(au u2 (w.heap.size) 0 [D C z.fst,D C z.snd,F ⟨#[]⟩,G az 0 cz]).heap[j]? = u2.heap[j]?:=fun j hj=>aB _ _ _ _ j hj
    have hsz:(au u2 (w.heap.size) 0 [D C z.fst,D C z.snd,F ⟨#[]⟩,G az 0 cz]).heap.size=u2.heap.size:=aD _ _ _ _
    generalize au u2 (w.heap.size) 0 [D C z.fst,D C z.snd,F ⟨#[]⟩,G az 0 cz]=Y at E hbb hoth hsz ⊢
    obtain⟨t0,t1,t2,t3⟩:=ai E
    simp at t0 t1 t2 t3
    exact bodyPost_ret (v:=K #[D C z.fst,D C z.snd,F ⟨#[]⟩,G az 0 cz]) (by simp[results,Tryz.results48,go_sem,t0,t1,t2,t3]) rfl ⟨(show aL A w Y (bG 1 TG) (M (vC z.1 z.2 ⟨#[]⟩ az 0 cz)) from(by rw[HLN.out];exact⟨z.1,z.2,⟨#[]⟩,az,0,cz,[],rfl,rfl,Nat.zero_le _,by decide,df⟩)),hbb⟩
 ·have hk':(k1 != 4)=true:=by simp[hk]
  rw[if_neg hk]
  show Calls _ _ _ _ fun e w_=>aL A w w_ (.node 0 0 ⟨#[]⟩ []) e∧Below w.heap.size w w_
  clear hk
  go_enter Tryz.func48,Tryz.ntmps48
  go_wp2_with fail
  have hbb:Below w.heap.size w (w.alloc (H #[D C 0,D C 0,F ⟨#[]⟩,G none 0 0] 30)):=(J _ _).alloc (I _) _
  exact bodyPost_ret (v:=K #[D C 0,D C 0,F ⟨#[]⟩,G none 0 0]) (by simp[results,Tryz.results48,go_sem]) rfl ⟨aL.flat _ _ _ (by decide),hbb⟩
def ni:T→T
 | .node k _ s L=>if k=3 then eL (Lib.runeCount s) else if k=4 then eL L.length else aw
theorem pp (w:World) (s:ByteArray) (p:Nat):Below w.heap.size w (w.iter s p):=(J _ _).alloc (I _) _
theorem rN (A:Nat→Prop) (L:List T) (a:Option Addr) (l c:Nat) (w:World) (hL:ap A w L a l) (hl:l=1) (hsm:∀t ∈ L,∀k n s Lt,t = .node k n s Lt→s.size≤4000):Calls Tryz.prog 51 #[G a l c] w fun e w'=>aL A w w' (ni (hdT L)) e∧Below w.heap.size w w':=by
 obtain⟨b,off,k,n,s,Lt,a1,l1,c1,rfl,hAb,hbl,hd,x0,x1,x2,x3,hlc,hss,hLt⟩:=hL.at (i:=0) (by omega)
 rw[N,P] at x0 x1 x2 x3
 have hlen:=hL.len.1
 have hL1:L = .node k n s Lt::L.drop 1:=by simpa using hd
 have e1:ni (hdT L)=if k=3 then eL (Lib.runeCount s) else if k=4 then eL Lt.length else aw:=by rw[hL1];rfl
 rw[e1]
 have hs4:s.size<9223372036854775807:=by have:=hsm (.node k n s Lt) (by rw[hL1];exact O ..) k n s Lt rfl;omega
 have HLL:=aa hLt.len.1
 clear e1 hsm hL1
 have hb0:Below w.heap.size w (w.alloc (H #[D C 0,D C 0,F ⟨#[]⟩,G none 0 0] 30)):=(J _ _).alloc (I _) _
 have hq:∀o,(w.alloc (H #[D C 0,D C 0,F ⟨#[]⟩,G none 0 0] 30)).cell? ⟨b,o,none⟩=w.cell? ⟨b,o,none⟩:=fun o=>hb0.cell (p:=⟨b,o,none⟩) hbl
 have y0:(w.alloc (H #[D C 0,D C 0,F ⟨#[]⟩,G none 0 0] 30)).cell? ⟨b,off,none⟩=_:=(hq _).trans x0
 have y1:(w.alloc (H #[D C 0,D C 0,F ⟨#[]⟩,G none 0 0] 30)).cell? ⟨b,off+1,none⟩=_:=(hq _).trans x1
 have y2:(w.alloc (H #[D C 0,D C 0,F ⟨#[]⟩,G none 0 0] 30)).cell? ⟨b,off+2,none⟩=_:=(hq _).trans x2
 have y3:(w.alloc (H #[D C 0,D C 0,F ⟨#[]⟩,G none 0 0] 30)).cell? ⟨b,off+3,none⟩=_:=(hq _).trans x3
 have hbl2:b<(w.alloc (H #[D C 0,D C 0,F ⟨#[]⟩,G none 0 0] 30)).heap.size:=by simp;omega
 have hb2:Below w.heap.size w ((w.alloc (H #[D C 0,D C 0,F ⟨#[]⟩,G none 0 0] 30)).alloc (H #[D C k,D C n,F s,G a1 l1 c1] 30)):=((J _ _).alloc (I _) _).alloc (by simp) _
 have hr2:((w.alloc (H #[D C 0,D C 0,F ⟨#[]⟩,G none 0 0] 30)).alloc (H #[D C k,D C n,F s,G a1 l1 c1] 30)).heap[w.heap.size]? = some (H #[D C 0,D C 0,F ⟨#[]⟩,G none 0 0] 30 (0,0)):=(Below.heap_alloc (w.alloc (H #[D C 0,D C 0,F ⟨#[]⟩,G none 0 0] 30)) (H #[D C k,D C n,F s,G a1 l1 c1] 30) w.heap.size (by simp)).trans (ae w (H #[D C 0,D C 0,F ⟨#[]⟩,G none 0 0] 30))
 have hz2:((w.alloc (H #[D C 0,D C 0,F ⟨#[]⟩,G none 0 0] 30)).alloc (H #[D C k,D C n,F s,G a1 l1 c1] 30)).heap.size=w.heap.size+2:=by simp
 have HB2:=aa hb2
 have HR2:=aa hr2
 have HZ2:=aa hz2
 have HLT:=aa hLt
 have HSS:=aa hss
 have HLC:=aa hlc
 clear x0 x1 x2 x3 hq hd hLt hlc hb0 hb2 hr2 hz2 hlen hL
 subst hl
 by_cases hk3:k=3
 ·have hk':(k==3)=true:=by simp[hk3]
  rw[if_pos hk3]
  obtain⟨q,hq⟩:∃z,z=((Lib.runeCount s:Nat):Int):=⟨_,rfl⟩
  have HC:Hid (∀W,Calls Tryz.prog 82 #[F s] W fun e w'=>e=M (D C q)∧Below W.heap.size W w'):=fun W=>by
   rw[hq]
   refine(Tryz.utf8_RuneCountInString s W hs4).mono ?_
   rintro e w' ⟨rfl,p,rfl⟩
   exact⟨rfl,pp _ _ _⟩
  show Calls _ _ _ _ fun e w_=>aL A w w_ (.node 2 ((Lib.runeCount s:Nat):Int) ⟨#[]⟩ []) e∧Below w.heap.size w w_
  rw[←hq]
  clear hk3 hq
  go_enter Tryz.func51,Tryz.ntmps51
  go_wp2_with fail
  refine(HC.out _).mono ?_
  clear y0 y1 y2 y3
  generalize (w.alloc (H #[D C 0,D C 0,F ⟨#[]⟩,G none 0 0] 30)).alloc (H #[D C k,D C n,F s,G a1 l1 c1] 30)=W at HB2 HR2 HZ2 ⊢
  rintro e w1 ⟨rfl,k1⟩
  have hb1:=(k1.block w.heap.size (by rw[HZ2.out];omega)).trans HR2.out
  obtain⟨r0,r1,r2,r3⟩:=ai hb1
  obtain⟨fr0,fr1,fr2,fr3⟩:=aq hb1
  simp at r0 r1 r2 r3
  have hs1:w.heap.size<w1.heap.size:=by have:=k1.size;rw[HZ2.out] at this;omega
  have HW1:=aa (af HB2.out k1)
  have HB1:=aa hb1
  clear k1 hb1
  go_wp2_with fail
  have eP:∀X:World,(((X.setCell ⟨w.heap.size,0,none⟩ (D C 2)).setCell ⟨w.heap.size,1,none⟩ (D C q)).setCell ⟨w.heap.size,2,none⟩ (F ⟨#[]⟩)).setCell ⟨w.heap.size,3,none⟩ (G none 0 0)=au X (w.heap.size) 0 [D C 2,D C q,F ⟨#[]⟩,G none 0 0]:=fun _=>rfl
  rw[eP]
  have E:=dh HB1.out rfl (D C 2) (D C q) (F ⟨#[]⟩) (G none 0 0)
  have hbb:Below w.heap.size w (au w1 (w.heap.size) 0 [D C 2,D C q,F ⟨#[]⟩,G none 0 0]):=HW1.out.trans ((aE (w.heap.size) _ _ w1).mono (I _))
  have hoth:∀j,j≠w.heap.size→(au w1 (w.heap.size) 0 [D C 2,D C q,F ⟨#[]⟩,G none 0 0]).heap[j]? = w1.heap[j]?:=fun j hj=>aB _ _ _ _ j hj
  have hsz:(au w1 (w.heap.size) 0 [D C 2,D C q,F ⟨#[]⟩,G none 0 0]).heap.size=w1.heap.size:=aD _ _ _ _
  generalize au w1 (w.heap.size) 0 [D C 2,D C q,F ⟨#[]⟩,G none 0 0]=Y at E hbb hoth hsz ⊢
  obtain⟨t0,t1,t2,t3⟩:=ai E
  simp at t0 t1 t2 t3
  exact bodyPost_ret (v:=K #[D C 2,D C q,F ⟨#[]⟩,G none 0 0]) (by simp[results,Tryz.results51,go_sem,t0,t1,t2,t3]) rfl ⟨aL.flat _ _ _ (by decide),hbb⟩
 ·have hk':(k==3)=false:=by simp[hk3]
  rw[if_neg hk3]
  by_cases hk4:k=4
  ·have hk2:(k==4)=true:=by simp[hk4]
   rw[if_pos hk4]
   show Calls _ _ _ _ fun e w_=>aL A w w_ (.node 2 ((Lt.length:Nat):Int) ⟨#[]⟩ []) e∧Below w.heap.size w w_
   rw[←HLL.out]
   clear hk3 hk4
   obtain⟨r0,r1,r2,r3⟩:=ai HR2.out
   obtain⟨fr0,fr1,fr2,fr3⟩:=aq HR2.out
   simp at r0 r1 r2 r3
   go_enter Tryz.func51,Tryz.ntmps51
   go_wp2_with fail
   have hbb:Below w.heap.size w ((w.alloc (H #[D C 2,D C l1,F ⟨#[]⟩,G none 0 0] 30)).alloc (H #[D C k,D C n,F s,G a1 l1 c1] 30)):=((J _ _).alloc (I _) _).alloc (by simp) _
   exact bodyPost_ret (v:=K #[D C 2,D C l1,F ⟨#[]⟩,G none 0 0]) (by simp[results,Tryz.results51,go_sem]) rfl ⟨aL.flat _ _ _ (by decide),hbb⟩
  ·have hk2:(k==4)=false:=by simp[hk4]
   rw[if_neg hk4]
   show Calls _ _ _ _ fun e w_=>aL A w w_ (.node 0 0 ⟨#[]⟩ []) e∧Below w.heap.size w w_
   clear hk3 hk4
   obtain⟨r0,r1,r2,r3⟩:=ai HR2.out
   obtain⟨fr0,fr1,fr2,fr3⟩:=aq HR2.out
   simp at r0 r1 r2 r3
   go_enter Tryz.func51,Tryz.ntmps51
   go_wp2_with fail
   have hbb:Below w.heap.size w ((w.alloc (H #[D C 0,D C 0,F ⟨#[]⟩,G none 0 0] 30)).alloc (H #[D C k,D C n,F s,G a1 l1 c1] 30)):=((J _ _).alloc (I _) _).alloc (by simp) _
   exact bodyPost_ret (v:=K #[D C 0,D C 0,F ⟨#[]⟩,G none 0 0]) (by simp[results,Tryz.results51,go_sem]) rfl ⟨aL.flat _ _ _ (by decide),hbb⟩
def n6:T→T
 | .node k _ _ L=>if k=4 then hdT L else aw
theorem sE (A:Nat→Prop) (L:List T) (a:Option Addr) (l c:Nat) (w:World) (hL:ap A w L a l) (hl:l=1):Calls Tryz.prog 52 #[G a l c] w fun e w'=>aL A w w' (n6 (hdT L)) e∧Below w.heap.size w w':=by
 obtain⟨b,off,k,n,s,Lt,a1,l1,c1,rfl,hAb,hbl,hd,x0,x1,x2,x3,hlc,hss,hLt⟩:=hL.at (i:=0) (by omega)
 rw[N,P] at x0 x1 x2 x3
 have hlen:=hL.len.1
 have hL1:L = .node k n s Lt::L.drop 1:=by simpa using hd
 have e1:n6 (hdT L)=if k=4 then hdT Lt else aw:=by rw[hL1];rfl
 rw[e1]
 clear e1 hL1
 have hb0:Below w.heap.size w (w.alloc (H #[D C 0,D C 0,F ⟨#[]⟩,G none 0 0] 30)):=(J _ _).alloc (I _) _
 have hq:∀o,(w.alloc (H #[D C 0,D C 0,F ⟨#[]⟩,G none 0 0] 30)).cell? ⟨b,o,none⟩=w.cell? ⟨b,o,none⟩:=fun o=>hb0.cell (p:=⟨b,o,none⟩) hbl
 have y0:(w.alloc (H #[D C 0,D C 0,F ⟨#[]⟩,G none 0 0] 30)).cell? ⟨b,off,none⟩=_:=(hq _).trans x0
 have y1:(w.alloc (H #[D C 0,D C 0,F ⟨#[]⟩,G none 0 0] 30)).cell? ⟨b,off+1,none⟩=_:=(hq _).trans x1
 have y2:(w.alloc (H #[D C 0,D C 0,F ⟨#[]⟩,G none 0 0] 30)).cell? ⟨b,off+2,none⟩=_:=(hq _).trans x2
 have y3:(w.alloc (H #[D C 0,D C 0,F ⟨#[]⟩,G none 0 0] 30)).cell? ⟨b,off+3,none⟩=_:=(hq _).trans x3
 have hbl2:b<(w.alloc (H #[D C 0,D C 0,F ⟨#[]⟩,G none 0 0] 30)).heap.size:=by simp;omega
 have hb2:Below w.heap.size w ((w.alloc (H #[D C 0,D C 0,F ⟨#[]⟩,G none 0 0] 30)).alloc (H #[D C k,D C n,F s,G a1 l1 c1] 30)):=((J _ _).alloc (I _) _).alloc (by simp) _
 have hr2:((w.alloc (H #[D C 0,D C 0,F ⟨#[]⟩,G none 0 0] 30)).alloc (H #[D C k,D C n,F s,G a1 l1 c1] 30)).heap[w.heap.size]? = some (H #[D C 0,D C 0,F ⟨#[]⟩,G none 0 0] 30 (0,0)):=(Below.heap_alloc (w.alloc (H #[D C 0,D C 0,F ⟨#[]⟩,G none 0 0] 30)) (H #[D C k,D C n,F s,G a1 l1 c1] 30) w.heap.size (by simp)).trans (ae w (H #[D C 0,D C 0,F ⟨#[]⟩,G none 0 0] 30))
 have hz2:((w.alloc (H #[D C 0,D C 0,F ⟨#[]⟩,G none 0 0] 30)).alloc (H #[D C k,D C n,F s,G a1 l1 c1] 30)).heap.size=w.heap.size+2:=by simp
 have HB2:=aa hb2
 have HR2:=aa hr2
 have HZ2:=aa hz2
 have HLT:=aa hLt
 have HSS:=aa hss
 have HLC:=aa hlc
 clear x0 x1 x2 x3 hq hd hLt hlc hb0 hb2 hr2 hz2 hlen hL
 subst hl
 by_cases hk4:k=4
 ·have hk':(k==4)=true:=by simp[hk4]
  rw[if_pos hk4]
  clear hk4
  by_cases hl1:0<l1
  ·obtain⟨b3,o3,k3,n3,s3,L3,a3,l3,c3,rfl,-,hb3,hd3,z0,z1,z2,z3,hlc3,hs3,hL3⟩:=HLT.out.at (i:=0) hl1
   rw[N,P] at z0 z1 z2 z3
   have hh:hdT Lt = .node k3 n3 s3 L3:=by
    have:Lt = .node k3 n3 s3 L3::Lt.drop 1:=by simpa using hd3
    rw[this]
    rfl
   rw[hh]
   have q:∀o,((w.alloc (H #[D C 0,D C 0,F ⟨#[]⟩,G none 0 0] 30)).alloc (H #[D C k,D C n,F s,G (some ⟨b3,o3,none⟩) l1 c1] 30)).cell? ⟨b3,o,none⟩=w.cell? ⟨b3,o,none⟩:=fun o=>HB2.out.cell (p:=⟨b3,o,none⟩) hb3
   have v0:((w.alloc (H #[D C 0,D C 0,F ⟨#[]⟩,G none 0 0] 30)).alloc (H #[D C k,D C n,F s,G (some ⟨b3,o3,none⟩) l1 c1] 30)).cell? ⟨b3,o3,none⟩=_:=(q _).trans z0
   have v1:((w.alloc (H #[D C 0,D C 0,F ⟨#[]⟩,G none 0 0] 30)).alloc (H #[D C k,D C n,F s,G (some ⟨b3,o3,none⟩) l1 c1] 30)).cell? ⟨b3,o3+1,none⟩=_:=(q _).trans z1
   have v2:((w.alloc (H #[D C 0,D C 0,F ⟨#[]⟩,G none 0 0] 30)).alloc (H #[D C k,D C n,F s,G (some ⟨b3,o3,none⟩) l1 c1] 30)).cell? ⟨b3,o3+2,none⟩=_:=(q _).trans z2
   have v3:((w.alloc (H #[D C 0,D C 0,F ⟨#[]⟩,G none 0 0] 30)).alloc (H #[D C k,D C n,F s,G (some ⟨b3,o3,none⟩) l1 c1] 30)).cell? ⟨b3,o3+3,none⟩=_:=(q _).trans z3
   have hlI:(l1:Int)>0:=by omega
   have hb32:b3<((w.alloc (H #[D C 0,D C 0,F ⟨#[]⟩,G none 0 0] 30)).alloc (H #[D C k,D C n,F s,G (some ⟨b3,o3,none⟩) l1 c1] 30)).heap.size:=by rw[HZ2.out];omega
   have HL3:=aa hL3
   have HS3:=aa hs3
   have HC3:=aa hlc3
   clear z0 z1 z2 z3 q hd3 hL3 hlc3 hh
   obtain⟨r0,r1,r2,r3⟩:=ai HR2.out
   obtain⟨fr0,fr1,fr2,fr3⟩:=aq HR2.out
   simp at r0 r1 r2 r3
   go_enter Tryz.func52,Tryz.ntmps52
   go_wp2_with fail
   have hbb:Below w.heap.size w ((w.alloc (H #[D C k3,D C n3,F s3,G a3 l3 c3] 30)).alloc (H #[D C k,D C n,F s,G (some ⟨b3,o3,none⟩) l1 c1] 30)):=((J _ _).alloc (I _) _).alloc (by simp) _
   exact bodyPost_ret (v:=K #[D C k3,D C n3,F s3,G a3 l3 c3]) (by simp[results,Tryz.results52,go_sem]) rfl ⟨⟨k3,n3,s3,a3,l3,c3,L3,rfl,rfl,HC3.out,HS3.out,ap.kept hbb.size (fun i hi hl=>⟨.inl hi,hbb.block i hl⟩) _ _ _ HL3.out⟩,hbb⟩
  ·have hlI:¬(l1:Int)>0:=by omega
   have hh:hdT Lt = .node 0 0 ⟨#[]⟩ []:=by
    have h0:=HLT.out.len.1
    have:Lt = []:=List.length_eq_zero_iff.1 (by omega)
    rw[this]
    rfl
   rw[hh]
   clear hh hl1
   obtain⟨r0,r1,r2,r3⟩:=ai HR2.out
   obtain⟨fr0,fr1,fr2,fr3⟩:=aq HR2.out
   simp at r0 r1 r2 r3
   go_enter Tryz.func52,Tryz.ntmps52
   go_wp2_with fail
   have hbb:Below w.heap.size w ((w.alloc (H #[D C 0,D C 0,F ⟨#[]⟩,G none 0 0] 30)).alloc (H #[D C k,D C n,F s,G a1 l1 c1] 30)):=((J _ _).alloc (I _) _).alloc (by simp) _
   exact bodyPost_ret (v:=K #[D C 0,D C 0,F ⟨#[]⟩,G none 0 0]) (by simp[results,Tryz.results52,go_sem]) rfl ⟨aL.flat _ _ _ (by decide),hbb⟩
 ·have hk':(k==4)=false:=by simp[hk4]
  rw[if_neg hk4]
  show Calls _ _ _ _ fun e w_=>aL A w w_ (.node 0 0 ⟨#[]⟩ []) e∧Below w.heap.size w w_
  clear hk4
  obtain⟨r0,r1,r2,r3⟩:=ai HR2.out
  obtain⟨fr0,fr1,fr2,fr3⟩:=aq HR2.out
  simp at r0 r1 r2 r3
  go_enter Tryz.func52,Tryz.ntmps52
  go_wp2_with fail
  have hbb:Below w.heap.size w ((w.alloc (H #[D C 0,D C 0,F ⟨#[]⟩,G none 0 0] 30)).alloc (H #[D C k,D C n,F s,G a1 l1 c1] 30)):=((J _ _).alloc (I _) _).alloc (by simp) _
  exact bodyPost_ret (v:=K #[D C 0,D C 0,F ⟨#[]⟩,G none 0 0]) (by simp[results,Tryz.results52,go_sem]) rfl ⟨aL.flat _ _ _ (by decide),hbb⟩
end Go.Proofs.YtijjpoohhgapoaaGreatDoor
