import Derived.Test.YtijjpoohhgapoaaGreatDoorVQBE
import Derived.Test.YtijjpoohhgapoaaGreatDoorVQBC
import Derived.Test.YtijjpoohhgapoaaGreatDoorVQBD
namespace Go.Proofs.YtijjpoohhgapoaaGreatDoor
open Go.RowKit
set_option linter.unusedVariables false
set_option maxHeartbeats 4000000
set_option maxRecDepth 100000
open IntKind renaming i64 → A
open Value renaming int → C, string → D, slice → F, tuple → I, agg → J
open Obj renaming cells → G
open Ending renaming returned → H
open RowKit.Below renaming heap_setCell → M, refl → O
open Nat renaming le_refl → N
section
variable {P:Program} (w:World)
theorem eZ {ops:Array Oper} {o:Oper} {a:Act} {K:Act→World→Prop} {Q:Exit→Act→World→Prop} {E:Prop} (hgd:o.guard=none) (s x:Operand) (t:TypeId)
  (ho:o.op = .call { callee:=.builtin .append,args:=#[s,x],argTypes:=#[t,t] })
  (base:Nat) (e:TypeId) (i:TypeInfo) (z:Value) (size bytes:Nat) (ht:P.underlying t=some (.slice e)) (hi:P.info? e=some i) (hz:i.zero=some z)
  (hsize:i.size=size) (hby:i.bytes=bytes) (hzs:z.cells.size=size) (hsz:0<size)
  (v:Value) (n:Nat) (xs:List Value) (hs:a.eval s=v) (hown:w.ownsRow base e size v n xs)
  (ax:Option Addr) (m c:Nat) (news:List Value) (hx:a.eval x=F ax m c) (hl:news.length=m*size) (hnews:∀j u,news[j]? = some u→∃ad,ax=some ad∧w.cell? (ad.add j)=some u) (h1:∀u ∈ news,u.oneCell'=true)
  (h63:n+m≤maxLen) (hbytes:(n+m)*bytes≤140737488355328) (hbase:base≤w.heap.size)
  (h:∀v' w',w'.ownsRow base e size v' (n+m) (xs++news)→w.grownBy w' v.ownBlock→(v'.ownBlock=v.ownBlock∨v'.ownBlock=some w.heap.size)→K (a.put o.dst v') w') :
  if Region.wanted o (yielded ops a.tmps)=true then Oper.wp P o a w K Q else E:=by
 have hw:Region.wanted o (yielded ops a.tmps)=true:=by simp[Region.wanted,hgd]
 rw[if_pos hw]
 exact fR w s x t ho base e i z size bytes ht hi hz hsize hby hzs hsz v n xs hs hown ax m c news hx hl hnews h1 h63 hbytes hbase h
end
theorem pu:(Tryz.prog.info? 30).map (fun i=>(i.zero,i.size,i.bytes))=some (some (J #[C A 0,C A 0,D ⟨#[]⟩,F none 0 0]),4,56):=by kernel_rfl
theorem ro:∃i,Tryz.prog.info? 30=some i∧i.zero=some (J #[C A 0,C A 0,D ⟨#[]⟩,F none 0 0])∧i.size=4∧i.bytes=56:=by
 obtain⟨i,h,e⟩:=Option.map_eq_some_iff.1 pu
 simp only[Prod.mk.injEq] at e
 exact⟨i,h,e⟩
theorem qW {w w':World} {B B' n size:Nat} {e:TypeId} {v:Value} {xs:List Value} (h:w.ownsRow B e size v n xs) (hB:B'≤B) (hk:∀g,B≤g→w'.heap[g]? = w.heap[g]?):w'.ownsRow B' e size v n xs:=by
 refine⟨h.1,?_⟩
 rcases h.2 with h | ⟨g,cap,cur,e1,e2,e3,e4⟩
 ·exact .inl h
 ·exact .inr ⟨g,cap,cur,e1,by omega,(hk g e2).trans e3,e4⟩
def kY (w:World) (a:Option Addr) (cs:List Value):Prop:=∀W,Below w.heap.size w W→∀j u,cs[j]? = some u→∃ad,a=some ad∧W.cell? (ad.add j)=some u
theorem f5 (n1 n2:Int) (s1 s2:ByteArray) (a1 a2:Option Addr) (l1 c1 l2 c2:Nat) (cs1 cs2:List Value) (w:World) (hs:l1+l2≤30) (hn1:cs1.length=l1*4) (hn2:cs2.length=l2*4) (hp1:kY w a1 cs1) (hp2:kY w a2 cs2) (ho1:∀u ∈ cs1,u.oneCell'=true) (ho2:∀u ∈ cs2,u.oneCell'=true) :
  Calls Tryz.prog 31 #[D ⟨#[43]⟩,J #[C A 4,C A n1,D s1,F a1 l1 c1],J #[C A 4,C A n2,D s2,F a2 l2 c2]] w fun e w'=>(∃v',e=H (I #[J #[C A 4,C A 0,D ⟨#[]⟩,v'],C A 0])∧w'.ownsRow w.heap.size 30 4 v' (l1+l2) (cs1++cs2))∧Below w.heap.size w w':=by
 have hs1:¬((30:Int)<(l1:Int)+(l2:Int)):=by omega
 obtain⟨i4,hi0,hiz,his,hib⟩:=ro
 have HI0:=aa hi0
 have HIZ:=aa hiz
 have HIS:=aa his
 have HIB:=aa hib
 have HN1:=aa hn1
 have HN2:=aa hn2
 have HO1:=aa ho1
 have HO2:=aa ho2
 have HP1:=aa hp1
 have HP2:=aa hp2
 have HB30:0+l1≤maxLen:=by unfold maxLen;omega
 have HB31:0+l1+l2≤maxLen:=by unfold maxLen;omega
 have HB56:(0+l1)*56≤140737488355328:=by omega
 have HB57:(0+l1+l2)*56≤140737488355328:=by omega
 clear hi0 hiz his hib hn1 hn2 ho1 ho2 hp1 hp2
 have q:=BG.three_alloc w (G #[C A 4,C A n1,D s1,F a1 l1 c1] 30) (G #[C A 4,C A n2,D s2,F a2 l2 c2] 30) (G #[C A 0,C A 0,D ⟨#[]⟩,F none 0 0] 30)
 have b0:Below w.heap.size w (((w.alloc (G #[C A 4,C A n1,D s1,F a1 l1 c1] 30)).alloc (G #[C A 4,C A n2,D s2,F a2 l2 c2] 30)).alloc (G #[C A 0,C A 0,D ⟨#[]⟩,F none 0 0] 30)):=(((O _ _).alloc (N _) _).alloc (by simp) _).alloc (by simp;omega) _
 have z0:(((w.alloc (G #[C A 4,C A n1,D s1,F a1 l1 c1] 30)).alloc (G #[C A 4,C A n2,D s2,F a2 l2 c2] 30)).alloc (G #[C A 0,C A 0,D ⟨#[]⟩,F none 0 0] 30)).heap.size=w.heap.size+3:=by simp
 have HQ:=aa q
 have HB0:=aa b0
 have HZ0:=aa z0
 clear q b0 z0
 go_enter Tryz.func31,Tryz.ntmps31
 go_wp2_with fail
 generalize (((w.alloc (G #[C A 4,C A n1,D s1,F a1 l1 c1] 30)).alloc (G #[C A 4,C A n2,D s2,F a2 l2 c2] 30)).alloc (G #[C A 0,C A 0,D ⟨#[]⟩,F none 0 0] 30))=Y at HQ HB0 HZ0 ⊢
 have x3:Y.cell? ⟨w.heap.size,3,none⟩=some (F a1 l1 c1):=ac HQ.out.1 3
 have y3:Y.cell? ⟨w.heap.size+1,3,none⟩=some (F a2 l2 c2):=ac HQ.out.2.1 3
 have s0:w.heap.size<Y.heap.size:=by rw[HZ0.out];omega
 have s1':w.heap.size+1<Y.heap.size:=by rw[HZ0.out];omega
 have HKY:Hid (∀o:Obj,Below (w.heap.size+3) Y (Y.drew.alloc o)):=fun o=>((O _ _).drew).alloc (by simp[HZ0.out]) _
 have HS:Hid (∀W,Below (w.heap.size+2) Y W→W.cell? ⟨w.heap.size,3,none⟩=some (F a1 l1 c1)∧W.cell? ⟨w.heap.size+1,3,none⟩=some (F a2 l2 c2)):=fun W k=>⟨(k.cell (p:=⟨w.heap.size,3,none⟩) (by show w.heap.size<_;omega)).trans x3,(k.cell (p:=⟨w.heap.size+1,3,none⟩) (by show w.heap.size+1<_;omega)).trans y3⟩
 go_region_held3 (fun w'=>w'.cell? ⟨w.heap.size,3,none⟩=some (F a1 l1 c1)∧w'.cell? ⟨w.heap.size+1,3,none⟩=some (F a2 l2 c2))
  (first
    | exact HS.out _ (((((k2.mono (by omega):Below (w.heap.size+2) Y w2).setCell (p:=⟨w.heap.size+1+1,0,none⟩) (by show w.heap.size+2≤w.heap.size+1+1;omega) _).setCell (p:=⟨w.heap.size+1+1,1,none⟩) (by show w.heap.size+2≤w.heap.size+1+1;omega) _).setCell (p:=⟨w.heap.size+1+1,2,none⟩) (by show w.heap.size+2≤w.heap.size+1+1;omega) _).setCell (p:=⟨w.heap.size+1+1,3,none⟩) (by show w.heap.size+2≤w.heap.size+1+1;omega) _)
    | exact HS.out _ (k2.mono (by omega))
    | exact HS.out _ (k1.mono (by omega))
    | go_keep)
  (first
    | ((refine eZ _ (by rfl) (.tmp 119) (.tmp 121) 28 (by rfl) (w.heap.size+3) 30 i4 _ 4 56 Tryz.underlying28 HI0.out HIZ.out HIS.out HIB.out rfl (by omega) v1 (0+l1) ([]++cs1) (by rfl) hown1 a2 l2 c2 cs2 (by rfl) HN2.out (HP2.out _ (HB0.out.trans (k1.mono (by omega)))) HO2.out HB31 HB57 (by have:=k1.size;rw[HZ0.out] at this;omega) ?_;intro v2 w2 hown2 hg2 hat2;have k2:Below (w.heap.size+3) Y w2:=k1.grown hg2 (by have:=k1.size;rw[HZ0.out] at this;omega) (fun k hk=>(hown1.lt k hk).1);obtain⟨av,cv,rfl,hcv⟩:=eS hown2;have hr:=(k2.block (w.heap.size+1+1) (by omega)).trans HQ.out.2.2;have r0:=ac hr 0;have r1:=ac hr 1;have r2:=ac hr 2;have r3:=ac hr 3;have f0:=aj hr 0;have f1:=aj hr 1;have f2:=aj hr 2;have f3:=aj hr 3;simp only[List.getElem?_toArray,List.getElem?_cons_zero,List.getElem?_cons_succ] at r0 r1 r2 r3;have sz2:w.heap.size+1+1<w2.heap.size:=(Array.getElem?_eq_some_iff.1 hr).1;have HHR:=aa hr;clear hr))
    | ((refine eZ _ (by rfl) (.tmp 116) (.tmp 118) 28 (by rfl) (w.heap.size+3) 30 i4 _ 4 56 Tryz.underlying28 HI0.out HIZ.out HIS.out HIB.out rfl (by omega) (F (some ⟨Y.heap.size,0,none⟩) 0 0) 0 [] (by rfl) (World.ownsRow_made _ #[] 0 (Nat.le_of_eq HZ0.out.symm) (by decide) rfl) a1 l1 c1 cs1 (by rfl) HN1.out (HP1.out _ (HB0.out.trans ((HKY.out _).mono (by omega)))) HO1.out HB30 HB56 (by have:=(HKY.out (G #[] 30)).size;rw[HZ0.out] at this;exact this) ?_;intro v1 w1 hown1 hg1 hat1;have k1:Below (w.heap.size+3) Y w1:=(HKY.out _).grown hg1 (by have:=(HKY.out (G #[] 30)).size;rw[HZ0.out] at this;exact this) (fun k hk=>by have hkk:Y.heap.size=k:=(Option.some.inj hk);rw[HZ0.out] at hkk;omega))))
 have hownx:w2.ownsRow (w.heap.size+3) 30 4 (F av (l1+l2) cv) (l1+l2) (cs1++cs2):=by
  have h:=hown2
  rw[List.nil_append,Nat.zero_add] at h
  exact h
 have E:=BG.set4_here (b:=w.heap.size+1+1) HHR.out (C A 4) (C A 0) (D ⟨#[]⟩) (F av (l1+l2) cv)
 have hkk:Below w.heap.size w w2:=HB0.out.trans (k2.mono (by omega))
 have hbb:Below w.heap.size w ((((w2.setCell ⟨w.heap.size+1+1,0,none⟩ (C A 4)).setCell ⟨w.heap.size+1+1,1,none⟩ (C A 0)).setCell ⟨w.heap.size+1+1,2,none⟩ (D ⟨#[]⟩)).setCell ⟨w.heap.size+1+1,3,none⟩ (F av (l1+l2) cv)):=(((hkk.setCell (p:=⟨w.heap.size+1+1,0,none⟩) (by show w.heap.size≤w.heap.size+1+1;omega) _).setCell (p:=⟨w.heap.size+1+1,1,none⟩) (by show w.heap.size≤w.heap.size+1+1;omega) _).setCell (p:=⟨w.heap.size+1+1,2,none⟩) (by show w.heap.size≤w.heap.size+1+1;omega) _).setCell (p:=⟨w.heap.size+1+1,3,none⟩) (by show w.heap.size≤w.heap.size+1+1;omega) _
 have hrow:((((w2.setCell ⟨w.heap.size+1+1,0,none⟩ (C A 4)).setCell ⟨w.heap.size+1+1,1,none⟩ (C A 0)).setCell ⟨w.heap.size+1+1,2,none⟩ (D ⟨#[]⟩)).setCell ⟨w.heap.size+1+1,3,none⟩ (F av (l1+l2) cv)).ownsRow w.heap.size 30 4 (F av (l1+l2) cv) (l1+l2) (cs1++cs2):=qW hownx (by omega) (fun g hg=>by
  rw[M _ _ _ g (by show g≠w.heap.size+1+1;omega),M _ _ _ g (by show g≠w.heap.size+1+1;omega),M _ _ _ g (by show g≠w.heap.size+1+1;omega),M _ _ _ g (by show g≠w.heap.size+1+1;omega)])
 generalize ((((w2.setCell ⟨w.heap.size+1+1,0,none⟩ (C A 4)).setCell ⟨w.heap.size+1+1,1,none⟩ (C A 0)).setCell ⟨w.heap.size+1+1,2,none⟩ (D ⟨#[]⟩)).setCell ⟨w.heap.size+1+1,3,none⟩ (F av (l1+l2) cv))=Z at E hbb hrow ⊢
 clear hown1 hown2 hg1 hg2 hat1 hat2 k1 k2 hownx hkk r0 r1 r2 r3 f0 f1 f2 f3 x3 y3
 go_wp2_with fail
 obtain⟨t0,t1,t2,t3⟩:=ai E
 simp at t0 t1 t2 t3
 exact bodyPost_ret (v:=I #[J #[C A 4,C A 0,D ⟨#[]⟩,F av (l1+l2) cv],C A 0]) (by simp[results,Tryz.results31,go_sem,t0,t1,t2,t3]) rfl ⟨⟨_,rfl,hrow⟩,hbb⟩
theorem j0 (n1 n2:Int) (s1 s2:ByteArray) (a1 a2:Option Addr) (l1 c1 l2 c2:Nat) (L1 L2:List T) (w:World) (hL1:am w L1 a1 l1) (hL2:am w L2 a2 l2) (hs:l1+l2≤30) :
  Calls Tryz.prog 31 #[D ⟨#[43]⟩,J #[C A 4,C A n1,D s1,F a1 l1 c1],J #[C A 4,C A n2,D s2,F a2 l2 c2]] w fun e w'=>wz w' 4 0 ⟨#[]⟩ (L1++L2) 0 e∧Below w.heap.size w w':=by
 obtain⟨cs1,m1,p1,o1,d1⟩:=gI hL1
 obtain⟨cs2,m2,p2,o2,d2⟩:=gI hL2
 have e1:=hL1.length.1
 have e2:=hL2.length.1
 refine(f5 n1 n2 s1 s2 a1 a2 l1 c1 l2 c2 cs1 cs2 w hs m1 m2 (fun W kW=>fD p1 kW) (fun W kW=>fD p2 kW) o1 o2).mono ?_
 rintro e w' ⟨⟨v',rfl,hrow⟩,k⟩
 obtain⟨a,c,rfl,hc,hl⟩:=kd hrow (by rw[List.length_append,e1,e2]) (by rw[List.length_append,←e1,←e2];omega) (d1.append d2 (by rw[m1,e1])) (fun Lt a l h=>h.below k)
 exact⟨⟨_,_,_,rfl,hc,hl⟩,k⟩
def aV (w w':World) (t:T) (e:Ending):Prop:=∃k n s L a l c er,t = .node k n s L∧e=H (I #[vC k n s a l c,C A er])∧l≤c∧ap fI w' L a l∧(er≠0→t=aw)
theorem aV.zero {w w':World} (k n:Int) (s:ByteArray):aV w w' (.node k n s []) (H (I #[vC k n s none 0 0,C A 0])):=⟨k,n,s,[],none,0,0,0,rfl,rfl,N _,df,fun h=>absurd rfl h⟩
theorem aV.err {w w':World} (er:Int):aV w w' aw (H (I #[vC 0 0 ⟨#[]⟩ none 0 0,C A er])):=⟨0,0,⟨#[]⟩,[],none,0,0,er,rfl,rfl,N _,df,fun _=>rfl⟩
theorem aV.int {w w':World} {z:Int} {e:Ending} (h:(-9223372036854775808≤z∧z≤9223372036854775807→e=H (I #[J #[C A 2,C A z,D ⟨#[]⟩,F none 0 0],C A 0]))∧(¬(-9223372036854775808≤z∧z≤9223372036854775807)→e=H (I #[J #[C A 0,C A 0,D ⟨#[]⟩,F none 0 0],C A 4]))):aV w w' (.node (kvI (aH z)) (nv (aH z)) ⟨#[]⟩ []) e:=by
 by_cases hz:-9223372036854775808≤z∧z≤9223372036854775807
 ·have hf:dF z=true:=(aJ z).2 hz
  rw[h.1 hz]
  unfold aH
  rw[if_pos hf]
  exact aV.zero _ _ _
 ·have hf:¬dF z=true:=fun e=>hz ((aJ z).1 e)
  rw[h.2 hz]
  unfold aH
  rw[if_neg hf]
  exact aV.err _
theorem tv (sg:UInt8) (hsg:sg=43∨sg=45∨sg=42) (k1 k2:Int) (n1 n2:Int) (s1 s2:ByteArray) (a1 a2:Option Addr) (l1 c1 l2 c2:Nat) (L1 L2:List T) (w:World) (hL1:am w L1 a1 l1) (hL2:am w L2 a2 l2) (f1:dF n1=true) (f2:dF n2=true) (hs1:s1.size≤4000) (hs2:s2.size≤4000) (hw1:wtL L1≤500000000000) (hw2:wtL L2≤500000000000) (hl1:l1≤1000) (hl2:l2≤1000) :
  Calls Tryz.prog 31 #[D ⟨#[sg]⟩,vC k1 n1 s1 a1 l1 c1,vC k2 n2 s2 a2 l2 c2] w fun e w'=>aV w w' (f6 sg (.node k1 n1 s1 L1) (.node k2 n2 s2 L2)) e∧Below w.heap.size w w':=by
 rw[gu]
 by_cases h0:k1=0∨k2=0
 ·rw[if_pos h0]
  rcases hsg with rfl | rfl | rfl
  ·exact(BG.reckonOf_null_add k1 k2 n1 n2 s1 s2 a1 a2 l1 c1 l2 c2 w h0).mono fun e w' ⟨h,k⟩=>⟨by rw[h];first | exact aV.zero _ _ _ | exact aV.err _,k⟩
  ·exact(BG.reckonOf_null_sub k1 k2 n1 n2 s1 s2 a1 a2 l1 c1 l2 c2 w h0).mono fun e w' ⟨h,k⟩=>⟨by rw[h];first | exact aV.zero _ _ _ | exact aV.err _,k⟩
  ·exact(BG.reckonOf_null_mul k1 k2 n1 n2 s1 s2 a1 a2 l1 c1 l2 c2 w h0).mono fun e w' ⟨h,k⟩=>⟨by rw[h];first | exact aV.zero _ _ _ | exact aV.err _,k⟩
 ·rw[if_neg h0]
  have hk1:k1≠0:=fun e=>h0 (.inl e)
  have hk2:k2≠0:=fun e=>h0 (.inr e)
  by_cases h2:k1=2∧k2=2
  ·rw[if_pos h2]
   obtain⟨rfl,rfl⟩:=h2
   rcases hsg with rfl | rfl | rfl
   ·exact(BG.reckonOf_add n1 n2 s1 s2 a1 a2 l1 c1 l2 c2 w ((aJ n1).1 f1) ((aJ n2).1 f2)).mono fun e w' ⟨h,k⟩=>⟨aV.int h,k⟩
   ·exact(BG.reckonOf_sub n1 n2 s1 s2 a1 a2 l1 c1 l2 c2 w ((aJ n1).1 f1) ((aJ n2).1 f2)).mono fun e w' ⟨h,k⟩=>⟨aV.int h,k⟩
   ·exact(BG.reckonOf_mul n1 n2 s1 s2 a1 a2 l1 c1 l2 c2 w ((aJ n1).1 f1) ((aJ n2).1 f2)).mono fun e w' ⟨h,k⟩=>⟨aV.int h,k⟩
  ·rw[if_neg h2]
   by_cases h3:sg=43∧k1=3∧k2=3
   ·rw[if_pos h3]
    obtain⟨rfl,rfl,rfl⟩:=h3
    by_cases h4:s1.size+s2.size≤4000
    ·rw[if_pos h4]
     exact(BG.reckonOf_text n1 n2 s1 s2 a1 a2 l1 c1 l2 c2 w h4).mono fun e w' ⟨h,k⟩=>⟨by rw[h];first | exact aV.zero _ _ _ | exact aV.err _,k⟩
    ·rw[if_neg h4]
     exact(BG.reckonOf_long n1 n2 s1 s2 a1 a2 l1 c1 l2 c2 w (by omega) (by omega)).mono fun e w' ⟨h,k⟩=>⟨by rw[h];first | exact aV.zero _ _ _ | exact aV.err _,k⟩
   ·rw[if_neg h3]
    by_cases h4:sg=43∧k1=4∧k2=4
    ·rw[if_pos h4]
     obtain⟨rfl,rfl,rfl⟩:=h4
     have e1:=hL1.length.1
     have e2:=hL2.length.1
     by_cases h5:L1.length+L2.length≤30
     ·rw[if_pos h5]
      refine(j0 n1 n2 s1 s2 a1 a2 l1 c1 l2 c2 L1 L2 w hL1 hL2 (by omega)).mono ?_
      rintro e w' ⟨⟨a',l',c',h,hlc,hLr⟩,k⟩
      exact⟨⟨4,0,⟨#[]⟩,L1++L2,a',l',c',0,rfl,h,hlc,am.lie _ _ _ hLr,fun h=>absurd rfl h⟩,k⟩
     ·rw[if_neg h5]
      exact(BG.reckonOf_many n1 n2 s1 s2 a1 a2 l1 c1 l2 c2 w (by omega) (by omega)).mono fun e w' ⟨h,k⟩=>⟨by rw[h];first | exact aV.zero _ _ _ | exact aV.err _,k⟩
    ·rw[if_neg h4]
     rcases hsg with rfl | rfl | rfl
     ·refine(BG.reckonOf_kind_add k1 k2 n1 n2 s1 s2 a1 a2 l1 c1 l2 c2 w hk1 hk2 h2 ?_).mono fun e w' ⟨h,k⟩=>⟨by rw[h];first | exact aV.zero _ _ _ | exact aV.err _,k⟩
      by_cases hk:k1=k2
      ·subst hk
       exact .inr ⟨fun e=>h3 ⟨rfl,e,e⟩,fun e=>h4 ⟨rfl,e,e⟩⟩
      ·exact .inl hk
     ·exact(BG.reckonOf_kind_sub k1 k2 n1 n2 s1 s2 a1 a2 l1 c1 l2 c2 w hk1 hk2 h2).mono fun e w' ⟨h,k⟩=>⟨by rw[h];first | exact aV.zero _ _ _ | exact aV.err _,k⟩
     ·exact(BG.reckonOf_kind_mul k1 k2 n1 n2 s1 s2 a1 a2 l1 c1 l2 c2 w hk1 hk2 h2).mono fun e w' ⟨h,k⟩=>⟨by rw[h];first | exact aV.zero _ _ _ | exact aV.err _,k⟩
theorem aK (w:World) (o1 o2 o3:Obj):(((w.alloc o1).alloc o2).alloc o3).heap[w.heap.size]? = some o1∧(((w.alloc o1).alloc o2).alloc o3).heap[w.heap.size+1]? = some o2∧(((w.alloc o1).alloc o2).alloc o3).heap[w.heap.size+2]? = some o3:=BG.three_alloc w o1 o2 o3
theorem b9 {nm:ByteArray} {o:Nat} {x:List UInt8} (h:bN nm=some o) (hx:dp[o]? = some x):(nm.toList==x)=true:=by
 obtain⟨y,h1,h2⟩:=gb h
 rw[hx] at h1
 injection h1 with h1
 subst h1
 rw[h2,ByteArray.toList_eq]
 simp
theorem pn:∀i j:Fin 17,i≠j→dp[i.val]? ≠ dp[j.val]?:=by decide
theorem ak {nm:ByteArray} {o j:Nat} {x:List UInt8} (h:bN nm=some o) (hx:dp[j]? = some x) (hne:o≠j):(nm.toList==x)=false:=by
 have hlt:=ir h
 have hj:j<17:=by
  have:=(List.getElem?_eq_some_iff.1 hx).1
  exact this
 obtain⟨y,h1,h2⟩:=gb h
 have hyx:y≠x:=fun e=>pn ⟨o,by omega⟩ ⟨j,hj⟩ (fun e=>hne (by injection e)) (by rw[show dp[(⟨o,by omega⟩:Fin 17).val]? = some y from h1,show dp[(⟨j,hj⟩:Fin 17).val]? = some x from hx,e])
 rw[h2,ByteArray.toList_eq]
 simpa using hyx
theorem bQ (k n:Int) (s:ByteArray) (a:Option Addr) (l c:Nat) (w:World):Calls Tryz.prog 35 #[vC k n s a l c] w fun e w'=>e=H (C A (if k=1 then n else 2))∧Below w.heap.size w w':=by
 have hb0:Below w.heap.size w (w.alloc (G #[C A k,C A n,D s,F a l c] 30)):=(O _ _).alloc (N _) _
 have HB:=aa hb0
 clear hb0
 by_cases hk:k=1
 ·rw[if_pos hk]
  subst hk
  go_enter Tryz.func35,Tryz.ntmps35
  go_wp2_with fail
  go_ret
  exact⟨rfl,HB.out⟩
 ·rw[if_neg hk]
  have hk':(k != 1)=true:=by simp[hk]
  go_enter Tryz.func35,Tryz.ntmps35
  go_wp2_with fail
  go_ret
  exact⟨rfl,HB.out⟩
theorem bX {u:World} {p:Nat} {x0 x1 x2 x3:Value} {t:TypeId} (h:u.heap[p]? = some (G #[x0,x1,x2,x3] t (0,0))):(u.cell? ⟨p,0,none⟩=some x0∧u.cell? ⟨p,1,none⟩=some x1∧u.cell? ⟨p,2,none⟩=some x2∧u.cell? ⟨p,3,none⟩=some x3)∧p<u.heap.size:=⟨⟨ac h 0,ac h 1,ac h 2,ac h 3⟩,lt_block' h⟩
theorem ba {w u:World} {p:Nat} {cs:Array Value} {t:TypeId} (h:u.heap[p]? = some (G cs t (0,0))) (h4:cs.size=4) (hb:Below w.heap.size w u) (hp:w.heap.size≤p) (v0 v1 v2 v3:Value):∃Y,(((u.setCell ⟨p,0,none⟩ v0).setCell ⟨p,1,none⟩ v1).setCell ⟨p,2,none⟩ v2).setCell ⟨p,3,none⟩ v3=Y∧(Y.cell? ⟨p,0,none⟩=some v0∧Y.cell? ⟨p,1,none⟩=some v1∧Y.cell? ⟨p,2,none⟩=some v2∧Y.cell? ⟨p,3,none⟩=some v3)∧Below w.heap.size w Y∧(∀j,j≠p→Y.heap[j]? = u.heap[j]?)∧Y.heap.size=u.heap.size:=by
 have e:(((u.setCell ⟨p,0,none⟩ v0).setCell ⟨p,1,none⟩ v1).setCell ⟨p,2,none⟩ v2).setCell ⟨p,3,none⟩ v3=au u p 0 [v0,v1,v2,v3]:=rfl
 have E4:=dh h h4 v0 v1 v2 v3
 exact⟨_,e,⟨ac E4 0,ac E4 1,ac E4 2,ac E4 3⟩,hb.trans ((aE p _ _ u).mono hp),fun j hj=>aB _ _ _ _ j hj,aD _ _ _ _⟩
def R8 (u:World) (b off:Nat) (k0 n0:Int) (s0:ByteArray) (a0:Option Addr) (l0 c0:Nat) (k1 n1:Int) (s1:ByteArray) (a1:Option Addr) (l1 c1:Nat):Prop:=(u.cell? ⟨b,off,none⟩=some (C A k0)∧u.cell? ⟨b,off+1,none⟩=some (C A n0)∧u.cell? ⟨b,off+2,none⟩=some (D s0)∧u.cell? ⟨b,off+3,none⟩=some (F a0 l0 c0))∧(u.cell? ⟨b,off+4,none⟩=some (C A k1)∧u.cell? ⟨b,off+5,none⟩=some (C A n1)∧u.cell? ⟨b,off+6,none⟩=some (D s1)∧u.cell? ⟨b,off+7,none⟩=some (F a1 l1 c1))
theorem bE {u:World} {p b:Nat} (h:b≠p) (v0 v1 v2 v3:Value) (o:Nat):((((u.setCell ⟨p,0,none⟩ v0).setCell ⟨p,1,none⟩ v1).setCell ⟨p,2,none⟩ v2).setCell ⟨p,3,none⟩ v3).cell? ⟨b,o,none⟩=u.cell? ⟨b,o,none⟩:=by
 have e:((((u.setCell ⟨p,0,none⟩ v0).setCell ⟨p,1,none⟩ v1).setCell ⟨p,2,none⟩ v2).setCell ⟨p,3,none⟩ v3)=au u p 0 [v0,v1,v2,v3]:=rfl
 rw[e]
 simp only[World.cell?,aB _ _ _ _ b h]
theorem kh (k n:Int) (s:ByteArray) (a:Option Addr) (l c:Nat) (k' n':Int) (s':ByteArray) (a':Option Addr) (l' c':Nat) (L L':List T) (w:World) (hL:am w L a l) (hL':am w L' a' l') (hw:wtL L≤1099511627776) (hw':wtL L'≤1099511627776) :
  Calls Tryz.prog 34 #[vC k n s a l c,vC k' n' s' a' l' c'] w fun e w'=>e=H (vC (bz (.node k n s L) (.node k' n' s' L')).1 (bz (.node k n s L) (.node k' n' s' L')).2 ⟨#[]⟩ none 0 0)∧Below w.heap.size w w':=by
 by_cases h:k=k'∧(k=2∨k=3)
 ·obtain⟨rfl,hk⟩:=h
  have e1:bz (.node k n s L) (.node k n' s' L')=(1,if cY (.node k n s L) (.node k n' s' L')<0 then 1 else 0):=by simp[bz,hk]
  rw[e1]
  exact pi k n s a l c n' s' a' l' c' (cY (.node k n s L) (.node k n' s' L')) w hk (fun W kk=>iX (wtL L) k n s a l c L k n' s' a' l' c' L' W (N _) (by omega) (by omega) (am.below kk _ _ _ hL) (am.below kk _ _ _ hL'))
 ·have e1:bz (.node k n s L) (.node k' n' s' L')=(0,0):=by simp only[bz,if_neg h]
  rw[e1]
  refine nW k n s a l c k' n' s' a' l' c' w ?_
  by_cases hk:k=k'
  ·exact .inr ⟨fun e=>h ⟨hk,.inl e⟩,fun e=>h ⟨hk,.inr e⟩⟩
  ·exact .inl hk
theorem dj (x k n:Int) (h:cI x=(k,n)) (w:World):Calls Tryz.prog 24 #[C A x] w fun e w'=>e=H (vC k n ⟨#[]⟩ none 0 0)∧Below w.heap.size w w':=by
 have:=dz x w
 rw[fY,h] at this
 exact this
theorem nf {k n:Int} {s:ByteArray} {L:List T} (h:Ck 6 (.node k n s L)):((if k=1 then n else 2)=0∧k=1∧n=0)∨((if k=1 then n else 2)=1∧k=1∧n=1)∨((if k=1 then n else 2)=2∧¬k=1):=by
 by_cases hk:k=1
 ·subst hk
  cases h with
  | bool _ _ g=>rcases g with rfl | rfl<;>simp
 ·exact .inr (.inr ⟨if_neg hk,hk⟩)
theorem jn {B:Nat} (k n:Int) (s:ByteArray) (a:Option Addr) (l c:Nat) (L:List T) (w:World) (hB:B≤w.heap.size) (hT:bD B w) (hs:s.size≤9223372036854775807) (hI:InT (.node k n s L)) (hL:am w L a l):Calls Tryz.prog 32 #[vC k n s a l c] w fun e w'=>e=H (.bool (chk 6 (.node k n s L)==0))∧Below w.heap.size w w':=by
 have hcv:∀W,Below w.heap.size w W→Calls Tryz.prog 22 #[vC k n s a l c,C A 1] W fun e w'=>e=H (C A (chk 6 (.node k n s L)))∧Below W.heap.size W w':=fun W hW=>(pJ B w hB hT 6 0 rfl k n s a l c L hs hI hL W hW).2
 have hb0:Below w.heap.size w (w.alloc (G #[C A k,C A n,D s,F a l c] 30)):=(O _ _).alloc (N _) _
 have HCV:=aa hcv
 have HB:=aa hb0
 clear hcv hb0 hT hI hL hB hs
 generalize chk 6 (.node k n s L)=z at HCV ⊢
 go_enter Tryz.func32,Tryz.ntmps32
 go_wp2_with fail
 refine(HCV.out _ HB.out).mono ?_
 rintro e u1 ⟨rfl,k1⟩
 have HK:=aa (af HB.out k1)
 clear k1
 go_wp2_with fail
 go_ret
 exact⟨aP rfl,HK.out⟩
theorem eN {k n:Int} {s:ByteArray} {L:List T} (h:Ck 6 (.node k n s L)):((if k=1 then n else 2)=0∧(.node k n s L:T) = .node 1 0 ⟨#[]⟩ [])∨((if k=1 then n else 2)=1∧(.node k n s L:T) = .node 1 1 ⟨#[]⟩ [])∨((if k=1 then n else 2)=2∧¬k=1):=by
 by_cases hk:k=1
 ·subst hk
  cases h with
  | bool _ _ g=>rcases g with rfl | rfl<;>simp
 ·exact .inr (.inr ⟨if_neg hk,hk⟩)
end Go.Proofs.YtijjpoohhgapoaaGreatDoor
