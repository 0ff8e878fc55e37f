import Derived.Test.YtijjpoohhgapoaaGreatDoorVQAK
namespace Go.Proofs.YtijjpoohhgapoaaGreatDoor
open Go.RowKit
set_option linter.unusedVariables false
set_option maxHeartbeats 16000000
set_option maxRecDepth 100000
open Value renaming slice → A, int → F, string → H, ownBlock → O, tuple → Q, agg → S
open IntKind renaming i64 → C
open Nat renaming le_refl → G
open RowKit.Below renaming heap_alloc → I, heap_setCell → K
open Obj renaming cells → J
open Ending renaming returned → M
open List renaming mem_singleton_self → R, append_nil → U
theorem rt:(Tryz.prog.info? 3).map (fun i=>(i.zero,i.size,i.bytes))=some (some (F C 0),1,8):=by kernel_rfl
theorem wb:∃i,Tryz.prog.info? 3=some i∧i.zero=some (F C 0)∧i.size=1∧i.bytes=8:=by
 obtain⟨i,h,e⟩:=Option.map_eq_some_iff.1 rt
 simp only[Prod.mk.injEq] at e
 exact⟨i,h,e⟩
theorem vJ {B n:Nat} {e:TypeId} {size:Nat} {v:Value} {xs:List Value} {w w':World} (h:w.ownsRow B e size v n xs) (hk:∀k,B≤k→k<w.heap.size→w'.heap[k]? = w.heap[k]?):w'.ownsRow B e size v n xs:=by
 refine⟨h.1,?_⟩
 rcases h.2 with h0 | ⟨g,cap,cur,e1,e2,e3,e4⟩
 ·exact .inl h0
 ·exact .inr ⟨g,cap,cur,e1,e2,by rw[hk g e2 (Array.getElem?_eq_some_iff.1 e3).1];exact e3,e4⟩
theorem uD {B n:Nat} {e:TypeId} {size:Nat} {v:Value} {xs:List Value} {w:World} (h:w.ownsRow B e size v n xs) (k:Nat) (hk:v.ownBlock=some k):B≤k:=by
 rcases h.2 with⟨rfl,_⟩ | ⟨g,cap,cur,rfl,e2,_⟩
 ·simp[O] at hk
 ·simp[O] at hk
  omega
theorem vQ (w:World) (o1 o2:Obj):((w.alloc o1).alloc o2).heap[w.heap.size+1]? = some o2:=by
 have:=ae (w.alloc o1) o2
 rw[show(w.alloc o1).heap.size=w.heap.size+1 from by simp] at this
 exact this
def ints (L:List Int):List Value:=L.map (fun n=>F C n)
theorem vN (L:List Int) (x:Int):ints (L ++ [x])=ints L ++ [F C x]:=by simp[ints]
def uC (id:Int) (kind:ByteArray) (inn:Bool) (x:Ed):Bool:=((if inn=true then x.dst else x.frm)==id)&&(kind.toList.isEmpty||kind.toList==x.typ.toList)
def arL (id:Int) (kind:ByteArray) (inn:Bool) (E:List Ed):List Int:=(E.filter (uC id kind inn)).map Ed.id
theorem wG {id:Int} {kind:ByteArray} {inn:Bool} {x:Ed} {E:List Ed} (h:uC id kind inn x=true):arL id kind inn (x::E)=x.id::arL id kind inn E:=by
 simp[arL,h]
theorem wO {id:Int} {kind:ByteArray} {inn:Bool} {x:Ed} {E:List Ed} (h:uC id kind inn x=false):arL id kind inn (x::E)=arL id kind inn E:=by
 simp[arL,h]
def vR (w w':World) (er:Int) (has:Bool) (L:List Int) (e:Ending):Prop:=
 (er≠0∧e=M (Q #[A none 0 0,F C er]))∨(er=0∧has=false∧e=M (Q #[A none 0 0,F C 5]))∨(er=0∧has=true∧∃v,e=M (Q #[v,F C 0])∧w'.ownsRow w.heap.size 3 1 v L.length (ints L))
def dH (w:World) (L:List Int) (a:Option Addr) (l:Nat):Prop:=
 l=L.length∧l≤9223372036854775807∧(0<l→∃b off,a=some ⟨b,off,none⟩∧b<w.heap.size∧∀i x,L[i]? = some x→w.cell? ⟨b,off+i,none⟩=some (F C x))
theorem dH.below {w w':World} (k:Below w.heap.size w w') {L:List Int} {a:Option Addr} {l:Nat} (h:dH w L a l):dH w' L a l:=by
 obtain⟨h1,h2,h3⟩:=h
 refine⟨h1,h2,fun h0=>?_⟩
 obtain⟨b,off,ha,hb,hc⟩:=h3 h0
 exact⟨b,off,ha,Nat.lt_of_lt_of_le hb k.size,fun i s hs=>(k.cell (p:=⟨b,off+i,none⟩) hb).trans (hc i s hs)⟩
theorem uj {w:World} {B:Nat} {v:Value} {L:List Int} (h:w.ownsRow B 3 1 v L.length (ints L)) (hl:L.length≤9223372036854775807):∃a c,v=A a L.length c∧dH w L a L.length:=by
 rcases h.2 with⟨h0,h1⟩ | ⟨g,cap,cur,h0,h1⟩
 ·exact⟨none,0,by rw[h0,h1],rfl,hl,fun h=>by omega⟩
 ·refine⟨some ⟨g,0,none⟩,cap,h0,rfl,hl,fun hp=>?_⟩
  subst h0
  obtain⟨g',cap',hv,_,hg⟩:=h.form (by omega)
  injection hv with hv1 hv2 hv3
  injection hv1 with hv1
  injection hv1 with hv1
  subst hv1
  refine⟨g,0,rfl,hg,fun i x hx=>?_⟩
  have hc:=h.cells (g:=g) rfl i (F C x) (by rw[ints,List.getElem?_map,hx];rfl)
  by_cases h0:i=0
  ·subst h0;simpa[Addr.add] using hc
  ·simpa[Addr.add,h0] using hc
def wM (L:List ByteArray) (t:ByteArray):Bool:=L.any (fun x=>t.toList==x.toList)
theorem rp:(Tryz.prog.info? 30).map (fun i=>(i.zero,i.size,i.bytes))=some (some (S #[F C 0,F C 0,H ⟨#[]⟩,A none 0 0]),4,56):=by kernel_rfl
theorem dw:∃i,Tryz.prog.info? 30=some i∧i.zero=some (S #[F C 0,F C 0,H ⟨#[]⟩,A none 0 0])∧i.size=4∧i.bytes=56:=by
 obtain⟨i,h,e⟩:=Option.map_eq_some_iff.1 rp
 simp only[Prod.mk.injEq] at e
 exact⟨i,h,e⟩
theorem sC:(Tryz.prog.info? 28).map (fun i=>(i.zero,i.size,i.bytes))=some (some (A none 0 0),1,24):=by kernel_rfl
theorem tJ:∃i,Tryz.prog.info? 28=some i∧i.zero=some (A none 0 0)∧i.size=1∧i.bytes=24:=by
 obtain⟨i,h,e⟩:=Option.map_eq_some_iff.1 sC
 simp only[Prod.mk.injEq] at e
 exact⟨i,h,e⟩
theorem tl (P:List Pd) (h:P ≠ []):∃P' p,P=P' ++ [p]:=⟨P.dropLast,P.getLast h,(List.dropLast_concat_getLast h).symm⟩
theorem oR {w:World} {B sb cap:Nat} {P:List Pd} {p:Pd} (h:w.ownsRow B 28 1 (A (some ⟨sb,0,none⟩) (P.length+1) cap) (P.length+1) (dB (P ++ [p]))) :
 w.ownsRow B 28 1 (A (some ⟨sb,0,none⟩) P.length cap) P.length (dB P)∧w.cell? ⟨sb,P.length,none⟩=some p.val∧P.length+1≤cap∧cap≤9223372036854775807:=by
 have hm:maxLen≤9223372036854775807:=by unfold maxLen;decide
 rcases h.2 with⟨e,_⟩ | ⟨g',cap',cur,e,h1,h2,h3,h4,h5,h6⟩
 ·cases e
 ·simp only[Value.slice.injEq,Option.some.injEq,Addr.mk.injEq,and_true,true_and] at e
  obtain⟨rfl,rfl⟩:=e
  have hl:(dB P).length=P.length:=by simp[dB]
  have hsp:dB (P ++ [p])=dB P ++ [p.val]:=by simp[dB]
  rw[hsp,Nat.mul_one] at h6
  refine⟨⟨by rw[hl,Nat.mul_one],.inr ⟨sb,cap,cur,rfl,h1,h2,by omega,h4,h5,?_⟩⟩,?_,h3,by omega⟩
  ·rw[Nat.mul_one]
   have e1:cur.toList.take P.length=(cur.toList.take (P.length+1)).take P.length:=by rw[List.take_take];congr 1;omega
   rw[e1,h6,List.take_append_of_le_length (by rw[hl];exact G _),List.take_of_length_le (by rw[hl];exact G _)]
  ·rw[ac h2]
   have h7:(cur.toList.take (P.length+1))[P.length]? = some p.val:=by
    rw[h6,List.getElem?_append_right (by rw[hl];exact G _),hl,Nat.sub_self]
    rfl
   rw[List.getElem?_take] at h7
   split at h7
   ·simpa using h7
   ·cases h7
theorem nA {w w':World} {B sb cap n size:Nat} {e:TypeId} {xs:List Value} (h:w.ownsRow B e size (A (some ⟨sb,0,none⟩) n cap) n xs) (hk:w'.heap[sb]? = w.heap[sb]?):w'.ownsRow B e size (A (some ⟨sb,0,none⟩) n cap) n xs:=by
 refine⟨h.1,?_⟩
 rcases h.2 with⟨e0,_⟩ | ⟨g',cap',cur,e0,h1,h2,h3⟩
 ·cases e0
 ·have e1:=e0
  simp only[Value.slice.injEq,Option.some.injEq,Addr.mk.injEq,and_true,true_and] at e1
  obtain⟨rfl,rfl⟩:=e1
  exact .inr ⟨sb,cap,cur,rfl,h1,hk.trans h2,h3⟩
theorem rI (L:List T):L.length+1≤wtL L:=by
 induction L with
 | nil=>unfold wtL;exact G _
 | cons t ts ih=>
   unfold wtL
   rw[List.length_cons]
   obtain⟨k,n,s,Lt⟩:=t
   unfold wtT
   have:=oG Lt
   omega
theorem m5 (L:List T) (b off l c:Nat) (W:World) (hL:am W L (some ⟨b,off,none⟩) l) (hb:b<W.heap.size) (hl0:0<l) (hw:wtL L≤1099511627776) :
 Calls Tryz.prog 57 #[A (some ⟨b,off,none⟩) l c] W fun e w'=>jL W w' L l e∧Below W.heap.size W w':=by
 have hll:=hL.length.1
 have HLL:=aa hll
 obtain⟨cs,hcl,hcc,hc1,hcd⟩:=fC L b off (by rw[←hll];exact hL)
 have hwl:=rI L
 have HW:=aa hw
 have hl40:l≤1099511627776:=by omega
 have HCD:=aa hcd
 have HC1:=aa hc1
 have hcl':cs.length=l*4:=by rw[hcl,hll]
 have HCL:=aa hcl'
 have HCC:Hid (∀j u,cs[j]? = some u→W.cell? ((⟨b,off,none⟩:Addr).add j)=some u):=fun j u hu=>by rw[d9];exact hcc j u hu
 clear hcl hcl' hcc hc1 hcd hL hw hll hwl
 obtain⟨i4,hi0,hiz,his,hib⟩:=dw
 have HI0:=aa hi0
 have HIZ:=aa hiz
 have HIS:=aa his
 have HIB:=aa hib
 obtain⟨i1,hj0,hjz,hjs,hjb⟩:=tJ
 have HJ0:=aa hj0
 have HJZ:=aa hjz
 have HJS:=aa hjs
 have HJB:=aa hjb
 clear hi0 hiz his hib hj0 hjz hjs hjb
 have HB:(0+l)*56≤140737488355328:=by omega
 have HB2:0+l≤maxLen:=by unfold maxLen;omega
 go_enter Tryz.func57,Tryz.ntmps57
 go_wp2_with (at_builtin;refine wpList_append_lies _ rfl _ _ 28 rfl W.heap.size 30 i4 _ 4 56 Tryz.underlying28 HI0.out HIZ.out HIS.out HIB.out rfl (by omega) (A none 0 0) 0 [] rfl (World.ownsRow_nil _ _ _ _) ⟨b,off,none⟩ l c cs rfl HCL.out HCC.out HC1.out hl0 HB2 HB (G _) W.heap.size rfl ?_)
 intro gg cap w1 hown hgrow hor hlt
 obtain rfl:gg=W.heap.size:=by
  rcases hor with h | h
  ·cases h
  ·exact h
 have hm0:=(ft hown HCD.out).1
 have hlc:=(ft hown HCD.out).2
 have b1:Below W.heap.size W w1:=(Below.refl _ _).grown hgrow (G _) (fun k hk=>by cases hk)
 have HM0:=aa hm0
 have HB1:=aa b1
 have HLC:=aa hlc
 have HLT:=aa hlt
 clear hm0 b1 hlc hlt hown hgrow hor HCC HC1 HCL HCD HB HB2
 go_wp2_with fail
 go_loopg [4] (wtL L) (fun gm s4 wr=>∃(P:List Pd) (sb cp:Nat) (D:Nat→Prop),s4=A (some ⟨sb,0,none⟩) P.length cp∧pdW P≤gm∧pdW P≤wtL L∧wr.ownsRow W.heap.size 28 1 (A (some ⟨sb,0,none⟩) P.length cp) P.length (dB P)∧Sep W wr P D sb∧iM W wr L W.heap.size P D∧W.heap.size≤sb∧sb<wr.heap.size∧Below W.heap.size W wr)
 case atStart=>
  have hz1:W.heap.size<w1.heap.size:=HLT.out
  have hlen:L.length≤9223372036854775807:=by have:=HLL.out;omega
  refine⟨[⟨W.heap.size,cap,L⟩],w1.heap.size,1,fun _=>False,by simp,by simp[pdW],by simp[pdW],?_,⟨fun p hp=>?_,by simp,fun i hi=>hi.elim⟩,?_,by omega,by simp,HB1.out.alloc HB1.out.size _⟩
  ·refine⟨by simp[dB],.inr ⟨w1.heap.size,1,#[A (some ⟨W.heap.size,0,none⟩) l cap],rfl,by omega,ae _ _,by simp,by unfold maxLen;decide,rfl,?_⟩⟩
   have:=HLL.out
   subst this
   rfl
  ·obtain rfl:=List.mem_singleton.1 hp
   refine⟨G _,by simp;omega,by show W.heap.size≠_;omega,fun h=>h,?_,hlen,HM0.out.kept (I _ _ _ hz1)⟩
   show 0<L.length
   have:=HLL.out
   omega
  ·intro w' hz hD hp
   exact hp _ (R _)
 case round=>
  obtain⟨P,sb,cp,D,rfl,hg,hpw,hrow,hsep,hwhole,hsb,hsb2,hbw⟩:=hrel
  have HROW:=aa hrow
  have HSEP:=aa hsep
  have HWH:=aa hwhole
  have HBW:=aa hbw
  clear hrow hsep hwhole hbw HM0
  rcases Classical.em (P = []) with he | he
  ·subst he
   have HLIE:=aa (HWH.out wr (G _) (fun _ _=>rfl) (fun p hp=>by cases hp))
   clear HWH HSEP HROW
   go_wp2_with fail
   go_ret
   refine⟨⟨_,cap,rfl,HLC.out,?_⟩,HBW.out⟩
   have:=HLIE.out
   rw[←HLL.out] at this
   exact this
  ·obtain⟨P',p,rfl⟩:=tl P he
   clear he
   have hlen:(P' ++ [p]).length=P'.length+1:=by simp
   rw[hlen] at HROW ⊢
   obtain⟨hr0,q0,hcp1,hcp2⟩:=oR HROW.out
   obtain⟨hpg1,hpg2,hpg3,hpg4,hpl,hpl2,hpm⟩:=HSEP.out.pend p (List.mem_append_right _ (R _))
   have HSEP2:=aa HSEP.out.pop
   have HR0:=aa hr0
   have HPM:=aa hpm
   have HPG4:=aa hpg4
   have hpw2:pdW P'+wtL p.L≤wtL L:=by rw[dS] at hpw;simpa[pdW] using hpw
   have hpw3:pdW P'+wtL p.L≤gk:=by rw[dS] at hg;simpa[pdW] using hg
   obtain⟨g,pc,Lg⟩:=p
   obtain⟨m,hm⟩:∃m,m=Lg.length:=⟨_,rfl⟩
   have q0':wr.cell? ⟨sb,P'.length,none⟩=some (A (some ⟨g,0,none⟩) m pc):=by rw[hm];exact q0
   have HMM:=aa hm
   have hm63:m≤9223372036854775807:=by rw[hm];exact hpl2
   obtain⟨n0,hn0⟩:∃n0,P'.length=n0:=⟨_,rfl⟩
   rw[hn0] at q0' hcp1 ⊢
   have HN0:=aa hn0
   have hpg1':W.heap.size≤g:=hpg1
   have hpg2':g<wr.heap.size:=hpg2
   have hpg3':g≠sb:=hpg3
   have HG3:=aa hpg3'
   have HP2:=aa hpw2
   have HP3:=aa hpw3
   clear hlen q0 hr0 hpm hpg1 hpg2 hpg3 hpg4 hpl hpl2 hm hn0 HROW HSEP hpw hg hpg3' hpw2 hpw3
   go_wp2_with fail
   obtain⟨W1,rfl⟩:∃W1,W1=wr:=⟨_,rfl⟩
   clear q0'
   go_loopg [4,28] m (fun gi s4 s28 wq=>∃(i nn:Nat) (news:List Pd) (sb cp:Nat),i≤m∧m-i≤gi∧s4=A (some ⟨sb,0,none⟩) nn cp∧s28=F C i∧nn=(P'++news).length∧wq.ownsRow W.heap.size 28 1 (A (some ⟨sb,0,none⟩) nn cp) nn (dB (P'++news))∧Sep W wq (P'++news) (fun i=>D i∨i=g) sb∧Mix W wq g Lg i news∧iM W wq L W.heap.size (P' ++ [⟨g,pc,Lg⟩]) D∧pdW news+wtL (Lg.drop i)≤wtL Lg∧W.heap.size≤sb∧sb<wq.heap.size∧Below W.heap.size W wq∧g<wq.heap.size)
   case atStart=>
    refine⟨0,n0,[],sb,cp,Nat.zero_le _,by omega,rfl,rfl,by rw[U];exact HN0.out.symm,?_,?_,HPM.out,HWH.out,by simp[pdW],hsb,hsb2,HBW.out,hpg2'⟩
    ·rw[U,←HN0.out]
     exact HR0.out
    ·rw[U]
     exact HSEP2.out
   case round=>
    clear HR0 HSEP2 HPM HWH HBW hsb hsb2 hpg2' hcp1 hcp2 HG3
    obtain⟨i,nn,news,sb,cp,hi,hgi,rfl,rfl,hnn,hrow,hsep,hmix,hwhole,hpn,hsb,hsb2,hbw,hgz⟩:=hrel
    have HNN:=aa hnn
    have HROW:=aa hrow
    have HSEP:=aa hsep
    have HMIX:=aa hmix
    have HWH:=aa hwhole
    have HPN:=aa hpn
    have HBW:=aa hbw
    clear hnn hrow hsep hmix hwhole hpn hbw
    have hgsb:g≠sb:=(HSEP.out.done g (.inr rfl)).2
    by_cases hlt:i<m
    ·obtain⟨t,ht,hd⟩:=aF (L:=Lg) (i:=i) (by have:=HMM.out;omega)
     obtain⟨k,n,st,Lt⟩:=t
     obtain⟨cu,hcu,hall⟩:=HMIX.out
     obtain⟨a0,a1,a2,a3,v,a4,-,a6⟩:=hall i k n st Lt ht
     obtain⟨ax,lx,cx,rfl,hlx,hLt⟩:=a6 (G _)
     have d0:=(ac hcu (i*4)).trans a1
     have d1:=(ac hcu (i*4+1)).trans a2
     have d2:=(ac hcu (i*4+1+1)).trans a3
     have d3:=(ac hcu (i*4+1+1+1)).trans a4
     have d3':=(ac hcu (i*4+3)).trans a4
     have f3:=aj hcu (i*4+3)
     have HCU:=aa hcu
     have HTI:=aa ht
     have HSZ:=aa (Array.getElem?_eq_some_iff.1 a4).1
     have HLT:=aa hLt
     have hlxl:=hLt.length.1
     have HWT:=aa (show wtL (Lg.drop i)=wtL Lt+1+wtL (Lg.drop (i+1)) by rw[hd,wtL,wtT])
     have HDN:=aa (fun j hj=>HSEP.out.done j (.inl hj))
     have HPD:=aa (fun q hq=>HSEP.out.pend q hq)
     clear hall hcu a0 a1 a2 a3 a4 a6 ht hd hLt
     by_cases hz:lx=0
     ·subst hz
      have hLt0:Lt = []:=List.length_eq_zero_iff.1 hlxl.symm
      subst hLt0
      obtain⟨X,hX⟩:∃X,X=(wr.alloc (J #[F C k,F C n,H st,A ax 0 cx] 30)).setCell ⟨g,i*4+3,none⟩ (A none 0 0):=⟨_,rfl⟩
      have hXs:(wr.alloc (J #[F C k,F C n,H st,A ax 0 cx] 30)).setCell ⟨g,i*4+3,none⟩ (A none 0 0)=X:=hX.symm
      have hXz:X.heap.size=wr.heap.size+1:=by rw[hX];simp[World.setCell]
      have hXo:∀j,j≠g→j<wr.heap.size→X.heap[j]? = wr.heap[j]?:=fun j h1 h2=>by
       rw[hX]
       exact(K _ _ _ j h1).trans (I _ _ j h2)
      have hXb:X.heap[wr.heap.size]? = some (J #[F C k,F C n,H st,A ax 0 cx] 30 (0,0)):=by
       rw[hX]
       exact(K _ _ _ _ (by show wr.heap.size≠g;omega)).trans (ae _ _)
      have hXg:∃cu',X.heap[g]? = some (J cu' 30 (0,0))∧cu'.size=cu.size∧(∀x,x≠i*4+3→cu'[x]? = cu[x]?)∧(i*4+3<cu.size→cu'[i*4+3]? = some (A none 0 0)):=by
       rw[hX]
       exact iT ((I _ _ g hgz).trans HCU.out) _ _
      have x3:X.cell? ⟨wr.heap.size,3,none⟩=some (A ax 0 cx):=ac hXb 3
      have hXB:Below W.heap.size W X:=by
       rw[hX]
       exact(HBW.out.alloc HBW.out.size _).setCell (p:=⟨g,i*4+3,none⟩) hpg1' _
      have HXZ:=aa hXz
      have HXO:=aa hXo
      have HXG:=aa hXg
      have HXB:=aa hXB
      clear hX hXz hXo hXb hXg hXB hlxl hlx
      go_wp2_with fail
      go_roundg (m-(i+1))
      case measure=>omega
      case rel=>
       have z:=HXZ.out
       refine⟨i+1,nn,news,sb,cp,by omega,by omega,rfl,by go_num,HNN.out,nA HROW.out (HXO.out sb (Ne.symm hgsb) hsb2),?_,?_,?_,?_,hsb,by omega,HXB.out,by omega⟩
       ·refine HSEP.out.kept (by omega) (fun q hq=>?_) (.inl rfl)
        obtain⟨h1,h2,h3,h4,_⟩:=HPD.out q hq
        exact HXO.out _ (fun e=>h4 (.inr e)) h2
       ·refine HMIX.out.put HTI.out (.inl ⟨rfl,rfl⟩) (fun q hq=>hq) (fun cu2 h2=>?_)
        obtain⟨cu',e1,_,e2,e3⟩:=HXG.out
        rw[HCU.out] at h2
        injection h2 with h2
        injection h2 with h2
        subst h2
        exact⟨cu',e1,e2,e3⟩
       ·refine HWH.out.kept (by omega) (fun j hj=>?_)
        exact HXO.out j (fun e=>HPG4.out (by rw[e] at hj;exact hj)) (HDN.out j hj).1
       ·have:=HWT.out
        have:=HPN.out
        omega
     ·obtain⟨bx,ox,hax,hbx⟩:∃bx ox,ax=some ⟨bx,ox,none⟩∧bx<W.heap.size:=by
       cases Lt with
       | nil=>exact absurd hlxl hz
       | cons t ts=>
         have h:=HLT.out
         unfold am at h
         obtain⟨b1,o1,h1,_,_,h2,_⟩:=h
         exact⟨b1,o1,h1,h2⟩
      subst hax
      obtain⟨cs2,hcl,hcc,hc1,hcd⟩:=fC Lt bx ox (by rw[←hlxl];exact HLT.out)
      have hwlt:=rI Lt
      have hwt:=HWT.out
      have hpn:=HPN.out
      have hp2:=HP2.out
      have hww:=HW.out
      have hlx40:lx≤1099511627776:=by omega
      have hnn40:nn≤1099511627776:=by
       have h1:=lJ (P'++news)
       rw[dS,←HNN.out] at h1
       omega
      have hcl':cs2.length=lx*4:=by rw[hcl,hlxl]
      have hlx0:0<lx:=by omega
      have HLX:=aa hlxl
      have HB:(0+lx)*56≤140737488355328:=by omega
      have HB2:0+lx≤maxLen:=by unfold maxLen;omega
      have HB3:(nn+1)*24≤140737488355328:=by omega
      have HB4:nn+1≤maxLen:=by unfold maxLen;omega
      obtain⟨X,hX⟩:∃X,X=(wr.alloc (J #[F C k,F C n,H st,A (some ⟨bx,ox,none⟩) lx cx] 30)).setCell ⟨g,i*4+3,none⟩ (A none 0 0):=⟨_,rfl⟩
      have hXs:(wr.alloc (J #[F C k,F C n,H st,A (some ⟨bx,ox,none⟩) lx cx] 30)).setCell ⟨g,i*4+3,none⟩ (A none 0 0)=X:=hX.symm
      have hXz:X.heap.size=wr.heap.size+1:=by rw[hX];simp[World.setCell]
      have hXo:∀j,j≠g→j<wr.heap.size→X.heap[j]? = wr.heap[j]?:=fun j h1 h2=>by
       rw[hX]
       exact(K _ _ _ j h1).trans (I _ _ j h2)
      have hXb:X.heap[wr.heap.size]? = some (J #[F C k,F C n,H st,A (some ⟨bx,ox,none⟩) lx cx] 30 (0,0)):=by
       rw[hX]
       exact(K _ _ _ _ (by show wr.heap.size≠g;omega)).trans (ae _ _)
      have hXg:∃cu',X.heap[g]? = some (J cu' 30 (0,0))∧cu'.size=cu.size∧(∀x,x≠i*4+3→cu'[x]? = cu[x]?)∧(i*4+3<cu.size→cu'[i*4+3]? = some (A none 0 0)):=by
       rw[hX]
       exact iT ((I _ _ g hgz).trans HCU.out) _ _
      have x3:X.cell? ⟨wr.heap.size,3,none⟩=some (A (some ⟨bx,ox,none⟩) lx cx):=ac hXb 3
      have hXB:Below W.heap.size W X:=by
       rw[hX]
       exact(HBW.out.alloc HBW.out.size _).setCell (p:=⟨g,i*4+3,none⟩) hpg1' _
      have HCC:Hid (∀j u,cs2[j]? = some u→X.cell? ((⟨bx,ox,none⟩:Addr).add j)=some u):=fun j u hu=>by
       rw[d9]
       exact(hXB.cell (p:=⟨bx,ox+j,none⟩) hbx).trans (hcc j u hu)
      have HCL:=aa hcl'
      have HC1:=aa hc1
      have HCD:=aa hcd
      have HXZ:=aa hXz
      have HXO:=aa hXo
      have HXG:=aa hXg
      have HXB:=aa hXB
      have hXW:W.heap.size≤X.heap.size:=hXB.size
      clear hX hXz hXo hXb hXg hXB hlxl hlx hcl hcl' hcc hc1 hcd hwlt hwt hpn hp2 hww
      go_wp2_with (at_builtin;refine wpList_append_lies _ rfl _ _ 28 rfl W.heap.size 30 i4 _ 4 56 Tryz.underlying28 HI0.out HIZ.out HIS.out HIB.out rfl (by omega) (A none 0 0) 0 [] rfl (World.ownsRow_nil _ _ _ _) ⟨bx,ox,none⟩ lx cx cs2 rfl HCL.out HCC.out HC1.out hlx0 HB2 HB hXW X.heap.size rfl ?_)
      intro gg cap2 w4 hown4 hgrow4 hor4 hlt4
      obtain rfl:gg=X.heap.size:=by
       rcases hor4 with h | h
       ·cases h
       ·exact h
      have hz4:X.heap.size<w4.heap.size:=hlt4
      have hm4:=(ft hown4 HCD.out).1
      have hlc4:=(ft hown4 HCD.out).2
      have ho4:∀j,j<X.heap.size→w4.heap[j]? = X.heap[j]?:=fun j hj=>hgrow4.block j hj (by simp[O])
      have hXgz:g<X.heap.size:=by rw[HXZ.out];omega
      have hB4:Below W.heap.size W w4:=HXB.out.grown hgrow4 HXB.out.size (fun k hk=>by cases hk)
      obtain⟨cu1,hcu1,hcs1,hco1,hcv1⟩:=HXG.out
      have h4g:=(ho4 g hXgz).trans hcu1
      have e3:w4.cell? ⟨g,i*4+3,none⟩=some (A none 0 0):=(ac h4g _).trans (hcv1 HSZ.out)
      have g3:=aj h4g (i*4+3)
      obtain⟨Y,hY⟩:∃Y,Y=w4.setCell ⟨g,i*4+3,none⟩ (A (some ⟨X.heap.size,0,none⟩) lx cap2):=⟨_,rfl⟩
      have hYs:w4.setCell ⟨g,i*4+3,none⟩ (A (some ⟨X.heap.size,0,none⟩) lx cap2)=Y:=hY.symm
      have hYz:Y.heap.size=w4.heap.size:=by rw[hY];simp[World.setCell]
      have hYo:∀j,j≠g→Y.heap[j]? = w4.heap[j]?:=fun j h1=>by rw[hY];exact K _ _ _ j h1
      have hYg:∃cu',Y.heap[g]? = some (J cu' 30 (0,0))∧(∀x,x≠i*4+3→cu'[x]? = cu[x]?)∧(i*4+3<cu.size→cu'[i*4+3]? = some (A (some ⟨X.heap.size,0,none⟩) lx cap2)):=by
       rw[hY]
       obtain⟨cu',q1,q2,q3,q4⟩:=iT h4g (i*4+3) (A (some ⟨X.heap.size,0,none⟩) lx cap2)
       exact⟨cu',q1,fun x hx=>(q3 x hx).trans (hco1 x hx),fun h=>q4 (by omega)⟩
      have y3:Y.cell? ⟨g,i*4+3,none⟩=some (A (some ⟨X.heap.size,0,none⟩) lx cap2):=by
       obtain⟨cu',q1,q2,q3⟩:=hYg
       exact(ac q1 _).trans (q3 HSZ.out)
      have hYB:Below W.heap.size W Y:=by rw[hY];exact hB4.setCell (p:=⟨g,i*4+3,none⟩) hpg1' _
      have hrY:Y.ownsRow W.heap.size 28 1 (A (some ⟨sb,0,none⟩) nn cp) nn (dB (P'++news)):=nA HROW.out ((hYo sb (Ne.symm hgsb)).trans ((ho4 sb (by rw[HXZ.out];omega)).trans (HXO.out sb (Ne.symm hgsb) hsb2)))
      have HM4:=aa hm4
      have HLC4:=aa hlc4
      have HO4:=aa ho4
      have HYZ:=aa hYz
      have HYO:=aa hYo
      have HYG:=aa hYg
      have HYB:=aa hYB
      have HRY:=aa hrY
      have hYW:W.heap.size≤Y.heap.size:=hYB.size
      have hgY:g<Y.heap.size:=by rw[hYz];omega
      have HZ4:=aa hz4
      clear hY hm4 hlc4 ho4 hYz hYo hYg hYB hrY hown4 hgrow4 hor4 hlt4 hB4 h4g hcu1 hcs1 hco1 hcv1 HCC HCL HC1 HCD HB HB2 x3 hXs hXgz d0 d1 d2 d3 d3' f3 hz4
      go_wp2_with (at_builtin;refine wpList_append_lies _ rfl _ _ 114 rfl W.heap.size 28 i1 _ 1 24 Tryz.underlying114 HJ0.out HJZ.out HJS.out HJB.out rfl (by omega) (A (some ⟨sb,0,none⟩) nn cp) nn (dB (P'++news)) rfl (HRY.out.alloc _) ⟨Y.heap.size,0,none⟩ 1 1 [A (some ⟨X.heap.size,0,none⟩) lx cap2] rfl rfl (World.news_of_block (cs:=#[A (some ⟨X.heap.size,0,none⟩) lx cap2]) (t:=28) (fr:=(0,0)) (ae Y _)) (by simp[Value.oneCell']) (by omega) HB4 HB3 (by simp;omega) (Y.heap.size+1) (by simp) ?_)
      intro sb2 cp2 w7 hown7 hgrow7 hor7 hlt7
      have hsb7:sb2=sb∨sb2=Y.heap.size+1:=by
       rcases hor7 with h | h
       ·simp[O] at h
        exact .inl h.symm
       ·exact .inr h
      have ho7:∀j,j<Y.heap.size→j≠sb→w7.heap[j]? = Y.heap[j]?:=fun j hj hne=>(hgrow7.block j (by simp;omega) (by simp[O];exact hne)).trans (I _ _ j hj)
      have hz7:Y.heap.size+1≤w7.heap.size:=by have:=hgrow7.size;simpa using this
      have hB7:Below W.heap.size W w7:=(HYB.out.alloc HYB.out.size _).grown hgrow7 (by simp;omega) (fun k hk=>by simp[O] at hk;omega)
      have HOWN7:=aa hown7
      have HSB7:=aa hsb7
      have HO7:=aa ho7
      have HZ7:=aa hz7
      have HB7:=aa hB7
      have HL7:=aa hlt7
      clear hown7 hgrow7 hor7 hlt7 hsb7 ho7 hz7 hB7 HRY e3 g3 y3 HB3 HB4
      go_wp2_with fail
      go_roundg (m-(i+1))
      case measure=>omega
      case rel=>
       have zx:=HXZ.out
       have zy:=HYZ.out
       have z4:=HZ4.out
       have z7:=HZ7.out
       have s7:=HSB7.out
       have old:∀j,j≠g→j≠sb→j<wr.heap.size→w7.heap[j]? = wr.heap[j]?:=fun j h1 h2 h3=>
        (HO7.out j (by omega) h2).trans ((HYO.out j h1).trans ((HO4.out j (by omega)).trans (HXO.out j h1 h3)))
       have hq:∀q ∈ news,q ∈ news ++ [⟨X.heap.size,cap2,Lt⟩]:=fun q hq=>List.mem_append_left _ hq
       refine⟨i+1,nn+1,news ++ [⟨X.heap.size,cap2,Lt⟩],sb2,cp2,by omega,by omega,rfl,by go_num,?_,?_,?_,?_,?_,?_,by omega,HL7.out,HB7.out,by omega⟩
       ·rw[HNN.out]
        simp only[List.length_append,List.length_singleton]
        omega
       ·have h:=HOWN7.out
        have e:dB (P'++(news ++ [⟨X.heap.size,cap2,Lt⟩]))=dB (P'++news) ++ [A (some ⟨X.heap.size,0,none⟩) lx cap2]:=by
         rw[HLX.out]
         simp[dB,Pd.val]
        rw[e]
        exact h
       ·rw[←List.append_assoc]
        refine Sep.more (HSEP.out.kept (by omega) (fun q hq=>?_) (by omega)) ⟨by show W.heap.size≤X.heap.size;omega,by show X.heap.size<_;omega,by show X.heap.size≠sb2;omega,?_,by show 0<Lt.length;rw[←HLX.out];exact hlx0,by show Lt.length≤_;rw[←HLX.out];omega,?_⟩ (fun q hq=>?_)
        ·obtain⟨h1,h2,h3,h4,_⟩:=HPD.out q hq
         exact old _ (fun e=>h4 (.inr e)) h3 h2
        ·rintro(h | h)
         ·have h2:=(HDN.out _ h).1
          have h3:X.heap.size<wr.heap.size:=h2
          omega
         ·have h3:X.heap.size=g:=h
          omega
        ·exact HM4.out.kept ((HO7.out _ (by show X.heap.size<_;omega) (by show X.heap.size≠sb;omega)).trans (HYO.out _ (by show X.heap.size≠g;omega)))
        ·have h2:=(HPD.out q hq).2.1
         show q.g≠X.heap.size
         omega
       ·have h7:=HO7.out g (by omega) hgsb
        refine HMIX.out.put (v:=A (some ⟨X.heap.size,0,none⟩) lx cap2) HTI.out (.inr ⟨⟨X.heap.size,cap2,Lt⟩,List.mem_append_right _ (R _),rfl,by rw[←HLX.out];omega,cap2,by rw[HLX.out],by rw[←HLX.out];exact HLC4.out⟩) hq (fun cu2 h2=>?_)
        obtain⟨cu',e1,e2,e3⟩:=HYG.out
        rw[HCU.out] at h2
        injection h2 with h2
        injection h2 with h2
        subst h2
        exact⟨cu',h7.trans e1,e2,e3⟩
       ·refine HWH.out.kept (by omega) (fun j hj=>?_)
        have h2:=HDN.out j hj
        exact old j (fun e=>HPG4.out (by rw[e] at hj;exact hj)) h2.2 h2.1
       ·have:=HWT.out
        have:=HPN.out
        rw[dS]
        simp only[pdW]
        omega
    ·have him:i=m:=by omega
     have HMX:Hid (Mix W wr g Lg Lg.length news):=by
      have h1:=HMIX.out
      rw[him,HMM.out] at h1
      exact h1
     have HW2:=aa (iM.next HWH.out HMX.out (by show Lg.length≤_;rw[←HMM.out];exact hm63) hpg1' hgz)
     have hmeas:pdW (P'++news)+1≤pdW P'+wtL Lg:=by
      have h1:=HPN.out
      rw[him,HMM.out,List.drop_length] at h1
      rw[dS]
      simp only[wtL] at h1
      omega
     have HME:=aa hmeas
     clear hmeas him
     go_wp2_with fail
     go_roundg (pdW (P'++news))
     case measure=>
      have:=HME.out
      have:=HP3.out
      omega
     case rel=>
      have h1:=HME.out
      have h2:=HP2.out
      refine⟨P'++news,sb,cp,_,?_,G _,by omega,?_,HSEP.out,HW2.out,hsb,hsb2,HBW.out⟩
      ·rw[HNN.out]
      ·have h3:=HROW.out
       rw[HNN.out] at h3
       exact h3
theorem jM (L:List T) (a:Option Addr) (l c:Nat) (W:World) (hL:am W L a l) (hw:wtL L≤1099511627776) :
 Calls Tryz.prog 57 #[A a l c] W fun e w'=>jL W w' L l e∧Below W.heap.size W w':=by
 have hl:=hL.length.1
 cases L with
 | nil=>
   simp only[List.length_nil] at hl
   subst hl
   refine(fT a c W).mono ?_
   rintro e w' ⟨rfl,k⟩
   exact⟨⟨none,0,rfl,G _,by unfold ap;rfl⟩,k⟩
 | cons t ts=>
   have h:=hL
   unfold am at h
   obtain⟨b,off,rfl,_,_,hb,_⟩:=h
   exact m5 (t::ts) b off l c W hL hb (by rw[hl];exact Nat.succ_pos _) hw
theorem rv (k n:Int) (s:ByteArray) (a:Option Addr) (l c:Nat) (L:List T) (w:World) (hL:am w L a l) (hw:wtL L≤1099511627776) :
 Calls Tryz.prog 17 #[S #[F C k,F C n,H s,A a l c]] w fun e w'=>pK w w' k n s L l e∧Below w.heap.size w w':=
 m6 k n s a l c L w fun W kW=>jM L a l c W (hL.below kW) hw
def sU (N:List Nd) (E:List Ed) (id:Int) (P:List Pr) (pa:Option Addr) (pl pc:Nat):Prop:=
 (∃x ∈ N,x.id=id∧x.props=P∧x.pa=pa∧x.pl=pl∧x.pc=pc)∨(dE N id=false∧∃x ∈ E,x.id=id∧x.props=P∧x.pa=pa∧x.pl=pl∧x.pc=pc)
def wV (N:List Nd) (E:List Ed) (id:Int) (e:Ending):Prop:=
 (∃P pa pl pc,sU N E id P pa pl pc∧e=M (Q #[A pa pl pc,.bool true]))∨(dE N id=false∧id ∉ E.map Ed.id∧e=M (Q #[A none 0 0,.bool false]))
end Go.Proofs.YtijjpoohhgapoaaGreatDoor
