import Derived.Test.YtijjpoohhgapoaaGreatDoorVQBF
namespace Go.Proofs.YtijjpoohhgapoaaGreatDoor
open Go.RowKit
set_option linter.unusedVariables false
set_option maxHeartbeats 4000000
set_option maxRecDepth 100000
open IntKind renaming i64 → C
open Value renaming int → D, slice → E, string → F, tuple → K, agg → N, pointer → S
open Obj renaming cells → H
open Nat renaming le_refl → I
open Ending renaming returned → J
open List renaming length_append → M, mem_cons_self → P
open RowKit.Below renaming refl → O
def aR (Q:Nat→Prop) (w w':World) (t:T) (e:Ending):Prop:=∃k n s L a l c er,t = .node k n s L∧e=J (K #[vC k n s a l c,D C er])∧l≤c∧ap (fun i=>Q i∨w.heap.size≤i) w' L a l∧(er≠0→t=aw)
theorem aR.zero {Q:Nat→Prop} {w w':World} (k n:Int) (s:ByteArray):aR Q w w' (.node k n s []) (J (K #[vC k n s none 0 0,D C 0])):=⟨k,n,s,[],none,0,0,0,rfl,rfl,I _,df,fun h=>absurd rfl h⟩
theorem aR.err {Q:Nat→Prop} {w w':World} (er:Int):aR Q w w' aw (J (K #[vC 0 0 ⟨#[]⟩ none 0 0,D C er])):=⟨0,0,⟨#[]⟩,[],none,0,0,er,rfl,rfl,I _,df,fun _=>rfl⟩
theorem aR.int {Q:Nat→Prop} {w w':World} {z:Int} {e:Ending} (h:(-9223372036854775808≤z∧z≤9223372036854775807→e=J (K #[N #[D C 2,D C z,F ⟨#[]⟩,E none 0 0],D C 0]))∧(¬(-9223372036854775808≤z∧z≤9223372036854775807)→e=J (K #[N #[D C 0,D C 0,F ⟨#[]⟩,E none 0 0],D C 4]))):aR Q w w' (.node (kvI (aH z)) (nv (aH z)) ⟨#[]⟩ []) e:=by
 by_cases hz:-9223372036854775808≤z∧z≤9223372036854775807
 ·have hf:dF z=true:=(aJ z).2 hz
  rw[h.1 hz]
  unfold aH
  rw[if_pos hf]
  exact aR.zero _ _ _
 ·have hf:¬dF z=true:=fun e=>hz ((aJ z).1 e)
  rw[h.2 hz]
  unfold aH
  rw[if_neg hf]
  exact aR.err _
theorem ke {Q:Nat→Prop} {w:World}:∀(L:List T) (a:Option Addr) (l:Nat),ap Q w L a l→∃xs:List VR,aA (VR.In Q w) xs L∧kY w a (bR xs)
 | [],a,l,h=>⟨[],aA.nil,fun W _ j u hu=>by simp[bR] at hu⟩
 | .node k n s Lt::ts,a,l,h=>by
   unfold ap at h
   obtain⟨b,off,ha,hl,_,hQ,hb,hT,hS⟩:=h
   unfold fE at hT
   obtain⟨hs,a',l',c',q0,q1,q2,q3,hlc,hLt⟩:=hT
   obtain⟨xs,hp,hc⟩:=ke ts (some ⟨b,off+4,none⟩) ts.length hS
   refine⟨⟨k,n,s,a',l',c'⟩::xs,⟨by have:=hp.1;simpa using this,fun i p y hp' hy=>?_⟩,fun W hW j u hu=>⟨_,ha,?_⟩⟩
   ·cases i with
    | zero=>
      injection hp' with hp'
      injection hy with hy
      subst hp' hy
      exact⟨Lt,rfl,hs,hlc,hLt⟩
    | succ i=>exact hp.2 i p y (by simpa using hp') (by simpa using hy)
   ·have hq:∀o,W.cell? ⟨b,o,none⟩=w.cell? ⟨b,o,none⟩:=fun o=>hW.cell (p:=⟨b,o,none⟩) hb
    have e:bR (⟨k,n,s,a',l',c'⟩::xs) = [D C k,D C n,F s,E a' l' c']++bR xs:=rfl
    rw[e] at hu
    match j,hu with
    | 0,hu=>injection hu with hu;rw[←hu];exact(hq _).trans q0
    | 1,hu=>injection hu with hu;rw[←hu];exact(hq _).trans q1
    | 2,hu=>injection hu with hu;rw[←hu];exact(hq _).trans q2
    | 3,hu=>injection hu with hu;rw[←hu];exact(hq _).trans q3
    | j+4,hu=>
      obtain⟨ad,h1,h2⟩:=hc W hW j u (by simpa using hu)
      injection h1 with h1
      subst h1
      have e2:(⟨b,off+4,none⟩:Addr).add j=(⟨b,off,none⟩:Addr).add (j+4):=by
       unfold Addr.add
       rw[if_neg (by omega:¬j+4=0)]
       split
       ·rename_i hj
        subst hj
        rfl
       ·show(⟨b,off+4+j,none⟩:Addr)=⟨b,off+(j+4),none⟩
        rw[show off+4+j=off+(j+4) by omega]
      rw[←e2]
      exact h2
theorem nC (xs:List VR):(bR xs).length=xs.length*4:=by
 induction xs with
 | nil=>rfl
 | cons x xs ih=>
   have e:bR (x::xs)=x.cells++bR xs:=rfl
   rw[e,M,ih,List.length_cons]
   show 4+_=_
   omega
theorem nB (xs:List VR):∀u ∈ bR xs,u.oneCell'=true:=by
 intro u hu
 unfold bR at hu
 obtain⟨l,hl,hu⟩:=List.mem_flatten.1 hu
 obtain⟨x,_,rfl⟩:=List.mem_map.1 hl
 simp only[VR.cells,List.mem_cons,List.not_mem_nil,or_false] at hu
 rcases hu with rfl | rfl | rfl | rfl<;>rfl
theorem aA.both {α β:Type} {R:α→β→Prop} {xs ys:List α} {us vs:List β} (h1:aA R xs us) (h2:aA R ys vs):aA R (xs++ys) (us++vs):=by
 have e1:=h1.1
 have e2:=h2.1
 refine⟨by simp only[M];omega,fun i x u hx hu=>?_⟩
 by_cases hi:i<xs.length
 ·rw[List.getElem?_append_left hi] at hx
  rw[List.getElem?_append_left (by omega)] at hu
  exact h1.2 i x u hx hu
 ·rw[List.getElem?_append_right (by omega)] at hx hu
  rw[←e1] at hu
  exact h2.2 _ x u hx hu
theorem jD (n1 n2:Int) (s1 s2:ByteArray) (a1 a2:Option Addr) (l1 c1 l2 c2:Nat) (L1 L2:List T) (w:World) (Q:Nat→Prop) (hL1:ap Q w L1 a1 l1) (hL2:ap Q w L2 a2 l2) (hs:l1+l2≤30) :
  Calls Tryz.prog 31 #[F ⟨#[43]⟩,N #[D C 4,D C n1,F s1,E a1 l1 c1],N #[D C 4,D C n2,F s2,E a2 l2 c2]] w fun e w'=>aR Q w w' (.node 4 0 ⟨#[]⟩ (L1++L2)) e∧Below w.heap.size w w':=by
 obtain⟨xs1,p1,o1⟩:=ke L1 a1 l1 hL1
 obtain⟨xs2,p2,o2⟩:=ke L2 a2 l2 hL2
 have e1:=hL1.len.1
 have e2:=hL2.len.1
 have g1:=p1.1
 have g2:=p2.1
 refine Calls.mono (f5 n1 n2 s1 s2 a1 a2 l1 c1 l2 c2 (bR xs1) (bR xs2) w hs (by rw[nC];omega) (by rw[nC];omega) o1 o2 (nB xs1) (nB xs2)) ?_
 rintro e w' ⟨⟨v',rfl,hrow⟩,hb⟩
 have er:bR xs1++bR xs2=bR (xs1++xs2):=by simp[bR]
 rw[er] at hrow
 obtain⟨a',c',rfl,hc'⟩:=eS hrow
 have hl:l1+l2=(xs1++xs2).length:=by rw[M];omega
 have hrow2:w'.ownsRow w.heap.size 30 4 (E a' (l1+l2) c') (xs1++xs2).length (bR (xs1++xs2)):=by rw[←hl];exact hrow
 obtain⟨v1,v2,v3⟩:=dI (n:=0) (A:=fun i=>Q i∨w.heap.size≤i) (xs:=xs1++xs2) (ts:=L1++L2) hrow2 (fun g hg=>.inr (by omega)) ((p1.both p2).mono fun x t _ _ hx=>hx.kept hb.size fun i hi hil=>⟨.inl hi,hb.block i hil⟩)
 exact⟨⟨4,0,⟨#[]⟩,L1++L2,a',l1+l2,c',0,rfl,rfl,v2,v3,fun h=>absurd rfl h⟩,hb⟩
theorem mq (sg:UInt8) (hsg:sg=43∨sg=45∨sg=42) (k1 k2:Int) (n1 n2:Int) (s1 s2:ByteArray) (a1 a2:Option Addr) (l1 c1 l2 c2:Nat) (L1 L2:List T) (w:World) (Q:Nat→Prop) (hL1:ap Q w L1 a1 l1) (hL2:ap Q w L2 a2 l2) (f1:dF n1=true) (f2:dF n2=true) (hs1:s1.size≤4000) (hs2:s2.size≤4000) (hl1:l1≤1000) (hl2:l2≤1000) :
  Calls Tryz.prog 31 #[F ⟨#[sg]⟩,vC k1 n1 s1 a1 l1 c1,vC k2 n2 s2 a2 l2 c2] w fun e w'=>aR Q w w' (f6 sg (.node k1 n1 s1 L1) (.node k2 n2 s2 L2)) e∧Below w.heap.size w w':=by
 rw[gu]
 by_cases h0:k1=0∨k2=0
 ·rw[if_pos h0]
  rcases hsg with rfl | rfl | rfl
  ·exact(BG.reckonOf_null_add k1 k2 n1 n2 s1 s2 a1 a2 l1 c1 l2 c2 w h0).mono fun e w' ⟨h,k⟩=>⟨by rw[h];first | exact aR.zero _ _ _ | exact aR.err _,k⟩
  ·exact(BG.reckonOf_null_sub k1 k2 n1 n2 s1 s2 a1 a2 l1 c1 l2 c2 w h0).mono fun e w' ⟨h,k⟩=>⟨by rw[h];first | exact aR.zero _ _ _ | exact aR.err _,k⟩
  ·exact(BG.reckonOf_null_mul k1 k2 n1 n2 s1 s2 a1 a2 l1 c1 l2 c2 w h0).mono fun e w' ⟨h,k⟩=>⟨by rw[h];first | exact aR.zero _ _ _ | exact aR.err _,k⟩
 ·rw[if_neg h0]
  have hk1:k1≠0:=fun e=>h0 (.inl e)
  have hk2:k2≠0:=fun e=>h0 (.inr e)
  by_cases h2:k1=2∧k2=2
  ·rw[if_pos h2]
   obtain⟨rfl,rfl⟩:=h2
   rcases hsg with rfl | rfl | rfl
   ·exact(BG.reckonOf_add n1 n2 s1 s2 a1 a2 l1 c1 l2 c2 w ((aJ n1).1 f1) ((aJ n2).1 f2)).mono fun e w' ⟨h,k⟩=>⟨aR.int h,k⟩
   ·exact(BG.reckonOf_sub n1 n2 s1 s2 a1 a2 l1 c1 l2 c2 w ((aJ n1).1 f1) ((aJ n2).1 f2)).mono fun e w' ⟨h,k⟩=>⟨aR.int h,k⟩
   ·exact(BG.reckonOf_mul n1 n2 s1 s2 a1 a2 l1 c1 l2 c2 w ((aJ n1).1 f1) ((aJ n2).1 f2)).mono fun e w' ⟨h,k⟩=>⟨aR.int h,k⟩
  ·rw[if_neg h2]
   by_cases h3:sg=43∧k1=3∧k2=3
   ·rw[if_pos h3]
    obtain⟨rfl,rfl,rfl⟩:=h3
    by_cases h4:s1.size+s2.size≤4000
    ·rw[if_pos h4]
     exact(BG.reckonOf_text n1 n2 s1 s2 a1 a2 l1 c1 l2 c2 w h4).mono fun e w' ⟨h,k⟩=>⟨by rw[h];first | exact aR.zero _ _ _ | exact aR.err _,k⟩
    ·rw[if_neg h4]
     exact(BG.reckonOf_long n1 n2 s1 s2 a1 a2 l1 c1 l2 c2 w (by omega) (by omega)).mono fun e w' ⟨h,k⟩=>⟨by rw[h];first | exact aR.zero _ _ _ | exact aR.err _,k⟩
   ·rw[if_neg h3]
    by_cases h4:sg=43∧k1=4∧k2=4
    ·rw[if_pos h4]
     obtain⟨rfl,rfl,rfl⟩:=h4
     have e1:=hL1.len.1
     have e2:=hL2.len.1
     by_cases h5:L1.length+L2.length≤30
     ·rw[if_pos h5]
      exact jD n1 n2 s1 s2 a1 a2 l1 c1 l2 c2 L1 L2 w Q hL1 hL2 (by omega)
     ·rw[if_neg h5]
      exact(BG.reckonOf_many n1 n2 s1 s2 a1 a2 l1 c1 l2 c2 w (by omega) (by omega)).mono fun e w' ⟨h,k⟩=>⟨by rw[h];first | exact aR.zero _ _ _ | exact aR.err _,k⟩
    ·rw[if_neg h4]
     rcases hsg with rfl | rfl | rfl
     ·refine(BG.reckonOf_kind_add k1 k2 n1 n2 s1 s2 a1 a2 l1 c1 l2 c2 w hk1 hk2 h2 ?_).mono fun e w' ⟨h,k⟩=>⟨by rw[h];first | exact aR.zero _ _ _ | exact aR.err _,k⟩
      by_cases hk:k1=k2
      ·subst hk
       exact .inr ⟨fun e=>h3 ⟨rfl,e,e⟩,fun e=>h4 ⟨rfl,e,e⟩⟩
      ·exact .inl hk
     ·exact(BG.reckonOf_kind_sub k1 k2 n1 n2 s1 s2 a1 a2 l1 c1 l2 c2 w hk1 hk2 h2).mono fun e w' ⟨h,k⟩=>⟨by rw[h];first | exact aR.zero _ _ _ | exact aR.err _,k⟩
     ·exact(BG.reckonOf_kind_mul k1 k2 n1 n2 s1 s2 a1 a2 l1 c1 l2 c2 w hk1 hk2 h2).mono fun e w' ⟨h,k⟩=>⟨by rw[h];first | exact aR.zero _ _ _ | exact aR.err _,k⟩
theorem tvC {B:Nat} (w0 w:World) (na:Option Addr) (nl nc:Nat) (ea:Option Addr) (el ec:Nat) (next:Int) (vk vn:Int) (vs:ByteArray) (va:Option Addr) (vl vc:Nat) (nm:ByteArray) (a:Option Addr) (l c:Nat) (Lv:List T) (A:List Tm) (m:Nat) (hw:Below w0.heap.size w0 w) (hB:B≤w0.heap.size) (hT:bD B w0) (ht:bd w0 4 vk vn vs va vl vc nm a l c Lv A) (o:Nat) (sg:UInt8) (hgrp:o=0∧sg=43∨o=1∧sg=45∨o=2∧sg=42) (ho:bN nm=some o) (htk:an o = -1∨an o=A.length) (h30:A.length≤30) (G:Tm→T) (hcw:∀y ∈ A,Ck 6 (G y)) (IH:∀(xk xvk xvn:Int) (xvs:ByteArray) (xva:Option Addr) (xvl xvc:Nat) (xnm:ByteArray) (xa:Option Addr) (xl xc:Nat) (Lv:List T) (A':List Tm),bd w0 xk xvk xvn xvs xva xvl xvc xnm xa xl xc Lv A'→.node xk (.node xvk xvn xvs Lv) xnm A' ∈ A→∀W,Below w0.heap.size w0 W→Calls Tryz.prog 12 #[N #[E na nl nc,E ea el ec,D C next],.map (some m),N #[D C xk,D C xvk,D C xvn,F xvs,E xva xvl xvc,F xnm,E xa xl xc]] W fun e w'=>aL (fun i=>i<w0.heap.size) W w' (G (.node xk (.node xvk xvn xvs Lv) xnm A')) e∧Below W.heap.size W w'):Calls Tryz.prog 12 #[N #[E na nl nc,E ea el ec,D C next],.map (some m),N #[D C 4,D C vk,D C vn,F vs,E va vl vc,F nm,E a l c]] w fun e w'=>aL (fun i=>i<w0.heap.size) w w' (opF o (A.map G)) e∧Below w.heap.size w w':=by
 have hlen:=ht.args.len.1
 have hl30:l≤30:=by rw[hlen];exact h30
 obtain⟨i0,hi0,hiz,his,hib⟩:=dw
 have HI0:=aa hi0
 have HIZ:=aa hiz
 have HIS:=aa his
 have HIB:=aa hib
 have HAR:=aa ht.args
 have HLEN:=aa hlen
 have HIH:=aa IH
 have HCW:=aa hcw
 have HTK:=aa htk
 have HTB:=aa hT
 have HBB:=aa hB
 have HO:=aa ho
 have HGR:=aa hgrp
 have hb3:Below w.heap.size w (((w.alloc (H #[E na nl nc,E ea el ec,D C next] 25)).alloc (H #[D C 4,D C vk,D C vn,F vs,E va vl vc,F nm,E a l c] 33)).alloc (H #[D C 0,D C 0,F ⟨#[]⟩,E none 0 0] 30)):=(((O _ _).alloc (I _) _).alloc (by simp) _).alloc (by simp;omega) _
 have hz:(((w.alloc (H #[E na nl nc,E ea el ec,D C next] 25)).alloc (H #[D C 4,D C vk,D C vn,F vs,E va vl vc,F nm,E a l c] 33)).alloc (H #[D C 0,D C 0,F ⟨#[]⟩,E none 0 0] 30)).heap.size=w.heap.size+3:=by simp
 have h0:(((w.alloc (H #[E na nl nc,E ea el ec,D C next] 25)).alloc (H #[D C 4,D C vk,D C vn,F vs,E va vl vc,F nm,E a l c] 33)).alloc (H #[D C 0,D C 0,F ⟨#[]⟩,E none 0 0] 30)).heap[w.heap.size]? = some (H #[E na nl nc,E ea el ec,D C next] 25 (0,0)):=(aK w (H #[E na nl nc,E ea el ec,D C next] 25) (H #[D C 4,D C vk,D C vn,F vs,E va vl vc,F nm,E a l c] 33) (H #[D C 0,D C 0,F ⟨#[]⟩,E none 0 0] 30)).1
 have h1:(((w.alloc (H #[E na nl nc,E ea el ec,D C next] 25)).alloc (H #[D C 4,D C vk,D C vn,F vs,E va vl vc,F nm,E a l c] 33)).alloc (H #[D C 0,D C 0,F ⟨#[]⟩,E none 0 0] 30)).heap[w.heap.size+1]? = some (H #[D C 4,D C vk,D C vn,F vs,E va vl vc,F nm,E a l c] 33 (0,0)):=(aK w (H #[E na nl nc,E ea el ec,D C next] 25) (H #[D C 4,D C vk,D C vn,F vs,E va vl vc,F nm,E a l c] 33) (H #[D C 0,D C 0,F ⟨#[]⟩,E none 0 0] 30)).2.1
 have h2:(((w.alloc (H #[E na nl nc,E ea el ec,D C next] 25)).alloc (H #[D C 4,D C vk,D C vn,F vs,E va vl vc,F nm,E a l c] 33)).alloc (H #[D C 0,D C 0,F ⟨#[]⟩,E none 0 0] 30)).heap[w.heap.size+2]? = some (H #[D C 0,D C 0,F ⟨#[]⟩,E none 0 0] 30 (0,0)):=(aK w (H #[E na nl nc,E ea el ec,D C next] 25) (H #[D C 4,D C vk,D C vn,F vs,E va vl vc,F nm,E a l c] 33) (H #[D C 0,D C 0,F ⟨#[]⟩,E none 0 0] 30)).2.2
 have HB:=aa hb3
 have HZ:=aa hz
 have H0:=aa h0
 have H1:=aa h1
 have H2:=aa h2
 clear hb3 hz h0 h1 h2
 have HW:=aa hw
 have HSZ:=aa hw.size
 clear ht hT hi0 hiz his hib hw hlen IH hcw htk hB h30 ho hgrp
 go_enter Tryz.func12,Tryz.ntmps12
 go_upto_region 1 with fail
 generalize (((w.alloc (H #[E na nl nc,E ea el ec,D C next] 25)).alloc (H #[D C 4,D C vk,D C vn,F vs,E va vl vc,F nm,E a l c] 33)).alloc (H #[D C 0,D C 0,F ⟨#[]⟩,E none 0 0] 30))=W at HB HZ H0 H1 H2 ⊢
 have HG1:Hid (∀u,Below (w.heap.size+3) W u→u.heap[w.heap.size]? = some (H #[E na nl nc,E ea el ec,D C next] 25 (0,0))):=fun u k=>(k.block w.heap.size (by omega)).trans H0.out
 have HT1:Hid (∀u,Below (w.heap.size+3) W u→u.heap[w.heap.size+1]? = some (H #[D C 4,D C vk,D C vn,F vs,E va vl vc,F nm,E a l c] 33 (0,0))):=fun u k=>(k.block (w.heap.size+1) (by omega)).trans H1.out
 have HR1:Hid (∀u,Below (w.heap.size+3) W u→u.heap[w.heap.size+2]? = some (H #[D C 0,D C 0,F ⟨#[]⟩,E none 0 0] 30 (0,0))):=fun u k=>(k.block (w.heap.size+2) (by omega)).trans H2.out
 have c0:=ac H1.out 0
 have c6:=ac H1.out 6
 simp at c0 c6
 have z1:w.heap.size+1<W.heap.size:=by rw[HZ.out];omega
 go_wp2_with fail
 clear c0 c6 z1
 go_loopg [10,75] l (fun q s10 s75 wr=>∃(i:Nat) (xs:List VR) (ov:Value),i≤l∧l-i≤q∧ov=s10∧s75=D C i∧xs.length=i∧wr.ownsRow (w.heap.size+3) 30 4 ov i (bR xs)∧Below (w.heap.size+3) W wr∧aA (VR.In (fun j=>(j<w0.heap.size∨w.heap.size+3≤j)∧ov.ownBlock≠some j) wr) xs ((A.take i).map G))
 case atStart=>exact⟨0,[],E none 0 0,Nat.zero_le _,by omega,rfl,rfl,rfl,World.ownsRow_nil _ _ _ _,O _ _,by simpa using aA.nil⟩
 case round=>
  obtain⟨i,xs,ov,hi,hg,rfl,rfl,hxs,hown,hbw,hpr⟩:=hrel
  have HOWN:=aa hown
  have HPR:=aa hpr
  have HXS:=aa hxs
  have hzw:w.heap.size+3≤wr.heap.size:=by have:=hbw.size;rw[HZ.out] at this;exact this
  have hw0:Below w.heap.size w wr:=HB.out.trans (hbw.mono (by omega))
  have hw00:Below w0.heap.size w0 wr:=HW.out.trans (hw0.mono HSZ.out)
  clear hown hpr hxs
  by_cases hlt:i<l
  ·obtain⟨b2,off2,xk,xvk,xvn,xvs,xva,xvl,xvc,xnm,xa,xl,xc,Lv',A',ha2,hbl2,hd,⟨e0,e1,e2,e3,e4,e5,e6⟩,hta⟩:=HAR.out.at (i:=i) hlt
   have HC:=aa (HIH.out xk xvk xvn xvs xva xvl xvc xnm xa xl xc Lv' A' hta (List.mem_of_mem_drop (i:=i) (by rw[hd];exact P ..)))
   have HTK2:Hid (A.take (i+1)=A.take i ++ [.node xk (.node xvk xvn xvs Lv') xnm A']):=by
    have e:A[i]? = some (.node xk (.node xvk xvn xvs Lv') xnm A'):=by
     have:=List.getElem?_drop (xs:=A) (i:=i) (j:=0)
     rw[hd] at this
     simpa using this.symm
    show A.take (i+1)=_
    rw[List.take_add_one,e]
    rfl
   subst ha2
   have q2:∀o,wr.cell? ⟨b2,o,none⟩=w0.cell? ⟨b2,o,none⟩:=fun o=>hw00.cell (p:=⟨b2,o,none⟩) hbl2
   have d0:=(q2 _).trans e0
   have d1:=(q2 _).trans e1
   have d2:=(q2 _).trans e2
   have d3:=(q2 _).trans e3
   have d4:=(q2 _).trans e4
   have d5:=(q2 _).trans e5
   have d6:=(q2 _).trans e6
   have hil:(i:Int)<l:=by omega
   have hkx:Below wr.heap.size wr (wr.alloc (H #[D C xk,D C xvk,D C xvn,F xvs,E xva xvl xvc,F xnm,E xa xl xc] 33)):=(O _ _).alloc (I _) _
   have hxb:=ae wr (H #[D C xk,D C xvk,D C xvn,F xvs,E xva xvl xvc,F xnm,E xa xl xc] 33)
   have hzx:(wr.alloc (H #[D C xk,D C xvk,D C xvn,F xvs,E xva xvl xvc,F xnm,E xa xl xc] 33)).heap.size=wr.heap.size+1:=by simp
   have HOX:=aa (HOWN.out.alloc (H #[D C xk,D C xvk,D C xvn,F xvs,E xva xvl xvc,F xnm,E xa xl xc] 33))
   have HBX:=aa (hbw.trans (hkx.mono hzw))
   have HKX:=aa hkx
   have HXB:=aa hxb
   have HZX:=aa hzx
   have HW0X:=aa (show Below w0.heap.size w0 (wr.alloc (H #[D C xk,D C xvk,D C xvn,F xvs,E xva xvl xvc,F xnm,E xa xl xc] 33)) from hw00.trans (hkx.mono hw00.size))
   clear e0 e1 e2 e3 e4 e5 e6 q2 hd hta hkx hxb hzx hbw hw0 hw00
   go_upto_region 18 with fail
   clear d0 d1 d2 d3 d4 d5 d6
   generalize wr.alloc (H #[D C xk,D C xvk,D C xvn,F xvs,E xva xvl xvc,F xnm,E xa xl xc] 33)=WX at HOX HBX HKX HXB HZX HW0X ⊢
   obtain⟨g0,g1,g2,g3,g4,g5,g6⟩:=bV HXB.out
   simp at g0 g1 g2 g3 g4 g5 g6
   have hgb:=HG1.out WX HBX.out
   obtain⟨v0,v1,v2⟩:=cj hgb
   simp at v0 v1 v2
   have hgs:w.heap.size<WX.heap.size:=lt_block' hgb
   clear hgb
   have hwX:wr.heap.size<WX.heap.size:=by rw[HZX.out];omega
   have HBy:(i+1)*56≤140737488355328:=by omega
   have HBm:i+1≤maxLen:=by unfold maxLen;omega
   go_wp2_with fail
   refine(HC.out _ HW0X.out).mono ?_
   rintro e u1 ⟨⟨rk,rn,rs,ra,rl,rc,Lr,rfl,hre,hrlc,hrs,hrL⟩,k1⟩
   have hu1:WX.heap.size≤u1.heap.size:=k1.size
   have hown2:u1.ownsRow (w.heap.size+3) 30 4 ov i (bR xs):=da HOX.out (fun g _ hgl=>k1.block g hgl)
   have hu2:w.heap.size+3≤u1.heap.size:=by omega
   have K1:=aa k1
   have HRE:=aa hre
   have HRL:=aa hrL
   have HRS:=aa (show rl≤rc∧rs.size≤9223372036854775807 from⟨hrlc,hrs⟩)
   have HO2:=aa hown2
   clear k1 hre hrL hrlc hrs hown2 g0 g1 g2 g3 g4 g5 g6 v0 v1 v2
   go_wp2_with (at_builtin;refine wpList_append_lies _ rfl _ _ 28 rfl (w.heap.size+3) 30 i0 _ 4 56 Tryz.underlying28 HI0.out HIZ.out HIS.out HIB.out rfl (by omega) ov i (bR xs) rfl (HO2.out.alloc _) ⟨u1.heap.size,0,none⟩ 1 1 ((⟨rk,rn,rs,ra,rl,rc⟩:VR).cells) rfl rfl (World.news_of_block (cs:=#[D C rk,D C rn,F rs,E ra rl rc]) (t:=30) (fr:=(0,0)) (ae u1 _)) (by simp[VR.cells,Value.oneCell']) (by omega) HBm HBy (by simp;omega) (u1.heap.size+1) (by simp) ?_)
   intro gg cap w5 hown5 hgrow hat5 hlt5
   have k1:=K1.out
   have hown2:=HO2.out
   have hle:=HSZ.out
   have hzx:=HZX.out
   have hb6:Below (w.heap.size+3) W w5:=((HBX.out.trans (k1.mono (by omega))).alloc (by omega) _).grown hgrow (by simp;omega) (fun j hj=>(hown2.lt j hj).1)
   have hsz5:u1.heap.size+1≤w5.heap.size:=by have:=hgrow.size;simpa using this
   have hkeep:∀j,ov.ownBlock≠some j→j<u1.heap.size→some gg≠some j∧w5.heap[j]? = u1.heap[j]?:=fun j hj hl=>by
    refine⟨fun e=>?_,?_⟩
    ·rcases hat5 with h | h
     ·exact hj (h.trans e)
     ·injection e with e;omega
    ·have q1:=hgrow.block j (by simp;omega) (Ne.symm hj)
     have q2:=((O u1.heap.size u1).alloc (I _) (H #[D C rk,D C rn,F rs,E ra rl rc] 30)).block j hl
     exact q1.trans q2
   have hold:aA (VR.In (fun j=>(j<w0.heap.size∨w.heap.size+3≤j)∧(Value.slice (some ⟨gg,0,none⟩) (i+1) cap).ownBlock≠some j) w5) xs ((A.take i).map G):=HPR.out.mono fun p x _ _ hp=>hp.kept (by omega) fun j hj hl=>by
    obtain⟨r1,r2⟩:=hkeep j hj.2 (by omega)
    exact⟨⟨hj.1,r1⟩,r2.trans ((k1.block j (by omega)).trans (HKX.out.block j hl))⟩
   have hnew:VR.In (fun j=>(j<w0.heap.size∨w.heap.size+3≤j)∧(Value.slice (some ⟨gg,0,none⟩) (i+1) cap).ownBlock≠some j) w5 (⟨rk,rn,rs,ra,rl,rc⟩:VR) (G (.node xk (.node xvk xvn xvs Lv') xnm A')):=⟨Lr,HRE.out,HRS.out.2,HRS.out.1,ap.kept (by omega) (fun j hj hl=>by
    have hn:ov.ownBlock≠some j:=fun e=>by
     have:=HOWN.out.lt j e
     rcases hj with h | h<;>omega
    obtain⟨r1,r2⟩:=hkeep j hn hl
    refine⟨⟨?_,r1⟩,r2⟩
    have hd:WX.drew.heap.size=WX.heap.size:=rfl
    rcases hj with h | h
    ·exact .inl h
    ·exact .inr (by omega)) _ _ _ HRL.out⟩
   have HP5:Hid (aA (VR.In (fun j=>(j<w0.heap.size∨w.heap.size+3≤j)∧(Value.slice (some ⟨gg,0,none⟩) (i+1) cap).ownBlock≠some j) w5) (xs ++ [(⟨rk,rn,rs,ra,rl,rc⟩:VR)]) ((A.take (i+1)).map G)):=by
    show aA _ _ _
    rw[HTK2.out,List.map_append]
    exact hold.snoc hnew
   have HOWN5:Hid (w5.ownsRow (w.heap.size+3) 30 4 (E (some ⟨gg,0,none⟩) (i+1) cap) (i+1) (bR (xs ++ [(⟨rk,rn,rs,ra,rl,rc⟩:VR)]))):=by
    rw[dR]
    exact hown5
   have HB6:=aa hb6
   clear hb6 hown5 hgrow hat5 hlt5 hown2 k1 hu1 hold hnew hkeep hsz5 hle hzx
   go_wp2_with fail
   go_roundg (l-(i+1))
   case measure=>omega
   case rel=>exact⟨i+1,xs ++ [(⟨rk,rn,rs,ra,rl,rc⟩:VR)],E (some ⟨gg,0,none⟩) (i+1) cap,by omega,by omega,rfl,by go_num,by rw[M,HXS.out];rfl,HOWN5.out,HB6.out,HP5.out⟩
  ·have hil:¬(i:Int)<l:=by omega
   have hll:i=l:=by omega
   have hA:A.take i=A:=List.take_of_length_le (by have:=HLEN.out;omega)
   have hpr:=HPR.out
   rw[hA] at hpr
   obtain⟨oa,oc,hov,hlc,hLA⟩:∃oa oc,ov=E oa l oc∧l≤oc∧ap (fun j=>j<w0.heap.size∨w.heap.size+3≤j) wr (A.map G) oa l:=by
    obtain⟨oa,ol,oc,hov⟩:∃oa ol oc,ov=E oa ol oc:=by
     rcases HOWN.out.2 with⟨e,_⟩ | ⟨g,cap,cur,e,_⟩
     ·exact⟨_,_,_,e⟩
     ·exact⟨_,_,_,e⟩
    subst hov
    have hr:=HOWN.out
    rw[←HXS.out] at hr
    obtain⟨v1,v2,v3⟩:=dI (n:=0) (A:=fun j=>j<w0.heap.size∨w.heap.size+3≤j) hr (fun g hg=>.inr (by omega)) (hpr.mono fun p x _ _ hp=>hp.kept (I _) fun j hj _=>⟨hj.1,rfl⟩)
    have e:ol=l:=by rw[v1,List.length_map,←HLEN.out]
    rw[e] at v2 v3
    exact⟨oa,oc,by rw[e],v2,v3⟩
   subst hov
   obtain⟨TS,hTS⟩:∃z,z=A.map G:=⟨_,rfl⟩
   rw[←hTS] at hLA
   have HTS:=aa hTS
   have HCS:Hid (∀t ∈ TS,Ck 6 t):=fun t ht=>by
    rw[hTS] at ht
    obtain⟨y,hy,rfl⟩:=List.mem_map.1 ht
    exact HCW.out y hy
   have hVb:Below wr.heap.size wr ((wr.alloc (H #[D C 0,D C 2,D C 1] 3)).alloc (H #[D C 0,D C 2,D C 1] 3)):=((O _ _).alloc (I _) _).alloc (by simp) _
   have HV13:Hid (((wr.alloc (H #[D C 0,D C 2,D C 1] 3)).alloc (H #[D C 0,D C 2,D C 1] 3)).heap[wr.heap.size]? = some (H #[D C 0,D C 2,D C 1] 3 (0,0))):=(Below.heap_alloc (wr.alloc (H #[D C 0,D C 2,D C 1] 3)) (H #[D C 0,D C 2,D C 1] 3) wr.heap.size (by simp)).trans (ae wr (H #[D C 0,D C 2,D C 1] 3))
   have HV14:=aa (ay wr (H #[D C 0,D C 2,D C 1] 3) (H #[D C 0,D C 2,D C 1] 3))
   have HZV:Hid (((wr.alloc (H #[D C 0,D C 2,D C 1] 3)).alloc (H #[D C 0,D C 2,D C 1] 3)).heap.size=wr.heap.size+2):=by show _=_;simp
   have HBV:=aa (hbw.trans (hVb.mono (by have:=hbw.size;rw[HZ.out] at this;exact this)))
   have HWV:=aa (af hw0 hVb)
   have HLV:=aa (hLA.below hVb)
   have hzwr:w.heap.size+3≤wr.heap.size:=by have:=hbw.size;rw[HZ.out] at this;exact this
   have HLC:=aa hlc
   clear hVb hLA hpr hA hTS hbw hw0 hw00 HOWN HPR hlc
   go_upto_region 22 with fail
   generalize (wr.alloc (H #[D C 0,D C 2,D C 1] 3)).alloc (H #[D C 0,D C 2,D C 1] 3)=V at HV13 HV14 HZV HBV HWV HLV ⊢
   have c5:=ac (HT1.out V HBV.out) 5
   simp at c5
   have z5:w.heap.size+1<V.heap.size:=lt_block' (HT1.out V HBV.out)
   have hV3:w.heap.size+3≤V.heap.size:=by have:=HZV.out;omega
   have hl2:l=2:=by
    have h:=HTK.out
    have h2:=HLEN.out
    rw[show an o=2 from by rcases HGR.out with⟨rfl,-⟩ | ⟨rfl,-⟩ | ⟨rfl,-⟩<;>decide] at h
    omega
   obtain⟨b,off,k0,n0,s0,L0,a0,l0,c0,ha,hAb,hbl,hd0,x0,x1,x2,x3,hlc0,hs0,hL0⟩:=HLV.out.at (i:=0) (by omega)
   obtain⟨b',off',k1,n1,s1,L1,a1,l1,c1,ha',-,-,hd1,y0,y1,y2,y3,hlc1,hs1,hL1⟩:=HLV.out.at (i:=1) (by omega)
   rw[ha] at ha'
   injection ha' with ha'
   injection ha' with e1 e2
   subst e1 e2
   rw[Nat.one_mul] at y0 y1 y2 y3
   subst ha
   rw[Nat.zero_mul,Nat.add_zero] at x0 x1 x2 x3
   have hb2:b≠w.heap.size+2:=by have h1:=HSZ.out;rcases hAb with h | h<;>omega
   have HTL:Hid (TS = [.node k0 n0 s0 L0,.node k1 n1 s1 L1]):=by
    have e0:TS = .node k0 n0 s0 L0::TS.drop 1:=by simpa using hd0
    have e3:TS.drop 2 = []:=List.drop_eq_nil_of_le (by have:=HLV.out.len.1;omega)
    rw[hd1,e3] at e0
    exact e0
   have HC0:Hid (Ck 6 (.node k0 n0 s0 L0)):=HCS.out _ (by rw[HTL.out];exact P ..)
   have HC1:Hid (Ck 6 (.node k1 n1 s1 L1)):=HCS.out _ (by rw[HTL.out];exact List.mem_cons_of_mem _ (P ..))
   have HL0:=aa hL0
   have HL1:=aa hL1
   have HC:=aa (show(l0≤c0∧s0.size≤9223372036854775807)∧(l1≤c1∧s1.size≤9223372036854775807) from⟨⟨hlc0,hs0⟩,⟨hlc1,hs1⟩⟩)
   have RC8:∀u,(∀o,u.cell? ⟨b,o,none⟩=V.cell? ⟨b,o,none⟩)→R8 u b off k0 n0 s0 a0 l0 c0 k1 n1 s1 a1 l1 c1:=fun u q=>⟨⟨(q _).trans x0,(q _).trans x1,(q _).trans x2,(q _).trans x3⟩,⟨(q _).trans y0,(q _).trans y1,(q _).trans y2,(q _).trans y3⟩⟩
   have HRC:=aa RC8
   clear x0 x1 x2 x3 y0 y1 y2 y3 RC8 hd0 hd1 hL0 hL1 hlc0 hlc1 hs0 hs1
   have hnm:nm=⟨#[sg]⟩:=by
    obtain⟨x,h1,h2⟩:=gb HO.out
    rcases HGR.out with⟨rfl,rfl⟩ | ⟨rfl,rfl⟩ | ⟨rfl,rfl⟩<;>(cases h1;exact h2)
   have HVE:Hid (opF o (A.map G)=f6 sg (.node k0 n0 s0 L0) (.node k1 n1 s1 L1)):=by
    show _=_
    rw[←HTS.out,HTL.out]
    rcases HGR.out with⟨rfl,rfl⟩ | ⟨rfl,rfl⟩ | ⟨rfl,rfl⟩<;>rfl
   have HCR:Hid (Ck 6 (f6 sg (.node k0 n0 s0 L0) (.node k1 n1 s1 L1))):=mK _ HC0.out HC1.out
   have HFN:Hid (∀u,Below V.heap.size V u→Calls Tryz.prog 31 #[F nm,vC k0 n0 s0 a0 l0 c0,vC k1 n1 s1 a1 l1 c1] u fun e w'=>aR (fun j=>(j<w0.heap.size∨w.heap.size+3≤j)∧j<V.heap.size) u w' (f6 sg (.node k0 n0 s0 L0) (.node k1 n1 s1 L1)) e∧Below u.heap.size u w'):=fun u ku=>by
    rw[hnm]
    have e1:=HC0.out.cw.parts
    have e2:=HC1.out.cw.parts
    exact mq sg (HGR.out.imp And.right fun h=>h.imp And.right And.right) k0 k1 n0 n1 s0 s1 a0 a1 l0 c0 l1 c1 L0 L1 u _ (ap.below (ap.kept (I _) (fun i hi hl=>⟨⟨hi,hl⟩,rfl⟩) _ _ _ HL0.out) ku) (ap.below (ap.kept (I _) (fun i hi hl=>⟨⟨hi,hl⟩,rfl⟩) _ _ _ HL1.out) ku) ((aJ n0).2 e1.2.2.1) ((aJ n1).2 e2.2.2.1) e1.1 e2.1 (by rw[HL0.out.len.1];omega) (by rw[HL1.out.len.1];omega)
   obtain⟨⟨kr,nr,sr,Lr⟩,hrr⟩:∃z,z=f6 sg (.node k0 n0 s0 L0) (.node k1 n1 s1 L1):=⟨_,rfl⟩
   rw[←hrr] at HVE HCR
   have HFM:Hid (∀u,Below V.heap.size V u→Calls Tryz.prog 31 #[F nm,vC k0 n0 s0 a0 l0 c0,vC k1 n1 s1 a1 l1 c1] u fun e w'=>(∃ar lr cr er,e=J (K #[vC kr nr sr ar lr cr,D C er])∧lr≤cr∧ap (fun i=>((i<w0.heap.size∨w.heap.size+3≤i)∧i<V.heap.size)∨u.heap.size≤i) w' Lr ar lr∧(er≠0→T.node kr nr sr Lr=aw))∧Below u.heap.size u w'):=fun u ku=>by
    refine(HFN.out u ku).mono ?_
    rintro e w' ⟨⟨k,n,s,L,a,l,c,er,ht,rfl,h1,h2,h3⟩,hb⟩
    rw[←hrr] at ht
    injection ht with t1 t2 t3 t4
    subst t1 t2 t3 t4
    exact⟨⟨a,l,c,er,rfl,h1,h2,fun h=>(hrr.trans (h3 h))⟩,hb⟩
   have hsr:sr.size≤9223372036854775807:=by have:=HCR.out.cw.parts.1;omega
   clear HFN hrr hnm
   subst hl2
   have hms:(nm.toList == [43])=true∨((nm.toList == [43])=false∧(nm.toList == [45])=true)∨((nm.toList == [43])=false∧(nm.toList == [45])=false∧(nm.toList == [42])=true):=by
    have h:=HO.out
    rcases HGR.out with⟨rfl,-⟩ | ⟨rfl,-⟩ | ⟨rfl,-⟩
    ·exact .inl (b9 h rfl)
    ·exact .inr (.inl ⟨ak (j:=0) h rfl (by decide),b9 h rfl⟩)
    ·exact .inr (.inr ⟨ak (j:=0) h rfl (by decide),ak (j:=1) h rfl (by decide),b9 h rfl⟩)
   rcases hms with hm0 | ⟨hm0,hm1⟩ | ⟨hm0,hm1,hm2⟩
   all_goals as_aux_lemma=>
    go_upto_region 26 with fail
    obtain⟨⟨x0,x1,x2,x3⟩,⟨y0,y1,y2,y3⟩⟩:=HRC.out V fun _=>rfl
    have D0:Below V.heap.size V V.drew:=(O _ _).drew
    have hbV:b<V.heap.size:=hbl
    have hb1:b≠w.heap.size+1:=by have h1:=HSZ.out;rcases hAb with h | h<;>omega
    have HS:Hid (∀u,Below V.heap.size V u→((u.cell? ⟨b,off,none⟩=some (D C k0)∧u.cell? ⟨b,off+1,none⟩=some (D C n0)∧u.cell? ⟨b,off+2,none⟩=some (F s0)∧u.cell? ⟨b,off+3,none⟩=some (E a0 l0 c0))∧(u.cell? ⟨b,off+4,none⟩=some (D C k1)∧u.cell? ⟨b,off+5,none⟩=some (D C n1)∧u.cell? ⟨b,off+6,none⟩=some (F s1)∧u.cell? ⟨b,off+7,none⟩=some (E a1 l1 c1))∧u.cell? ⟨w.heap.size+1,5,none⟩=some (F nm))):=fun u ku=>by
     obtain⟨q1,q2⟩:=HRC.out u fun o=>ku.cell (p:=⟨b,o,none⟩) hbl
     exact⟨q1,q2,(ku.cell (p:=⟨w.heap.size+1,5,none⟩) z5).trans c5⟩
    go_cut [15,16,74,75] (fun s15 s16 s74 s75 wx=>∃p ar lr cr er,s15=S (some ⟨p,0,none⟩)∧s16=D C er∧wx.heap[p]? = some (H #[D C kr,D C nr,F sr,E ar lr cr] 30 (0,0))∧V.heap.size≤p∧lr≤cr∧ap (fun i=>(i<w0.heap.size∨w.heap.size+3≤i)∧i≠p) wx Lr ar lr∧Below V.heap.size V wx∧(er≠0→T.node kr nr sr Lr=aw))
    case first=>
     go_region_held3 (fun W'=>((W'.cell? ⟨b,off,none⟩=some (D C k0)∧W'.cell? ⟨b,off+1,none⟩=some (D C n0)∧W'.cell? ⟨b,off+2,none⟩=some (F s0)∧W'.cell? ⟨b,off+3,none⟩=some (E a0 l0 c0))∧(W'.cell? ⟨b,off+4,none⟩=some (D C k1)∧W'.cell? ⟨b,off+5,none⟩=some (D C n1)∧W'.cell? ⟨b,off+6,none⟩=some (F s1)∧W'.cell? ⟨b,off+7,none⟩=some (E a1 l1 c1))∧W'.cell? ⟨w.heap.size+1,5,none⟩=some (F nm)))
      (first
        | with_reducible exact HS.out _ k1
        | with_reducible exact HS.out _ D0
        | with_reducible exact HS.out _ (k1.alloc k1.size _)
        | with_reducible exact HS.out _ (D0.alloc (I _) _)
        | with_reducible exact HS.out _ (qA k1 V.heap.size (I _) _ _ _ _)
        | with_reducible exact HS.out _ (qA (k1.alloc k1.size _) u1.heap.size k1.size _ _ _ _)
        | exact⟨⟨x0,x1,x2,x3⟩,⟨y0,y1,y2,y3⟩,c5⟩
        | go_keep)
      (first
        | (go_at_call 31;go_fit (HFM.out (V.drew.alloc (H #[D C 0,D C 0,F ⟨#[]⟩,E none 0 0] 30)) (D0.alloc (I _) _));rintro e u1 ⟨⟨ar,lr,cr,er,rfl,hlr,hLr,hee⟩,h1⟩;have k1:Below V.heap.size V u1:=(D0.alloc (I _) _).trans (h1.mono (by simp));have hp:u1.heap[V.heap.size]? = some (H #[D C 0,D C 0,F ⟨#[]⟩,E none 0 0] 30 (0,0)):=(h1.block V.heap.size (by simp)).trans (ae V.drew _);have p0:=ac hp 0;have p1:=ac hp 1;have p2:=ac hp 2;have p3:=ac hp 3;have f0:=aj hp 0;have f1:=aj hp 1;have f2:=aj hp 2;have f3:=aj hp 3;simp at p0 p1 p2 p3;have hplt:V.heap.size<u1.heap.size:=lt_block' hp)
        | (go_at_call 31;go_fit (HFM.out V.drew D0);rintro e u1 ⟨⟨ar,lr,cr,er,rfl,hlr,hLr,hee⟩,h1⟩;have k1:Below V.heap.size V u1:=D0.trans h1))
     all_goals
      go_wp2_with fail
      go_meet
     all_goals first
      | (have hq:ap (fun i=>(i<w0.heap.size∨w.heap.size+3≤i)∧i≠u1.heap.size) (u1.alloc (H #[D C kr,D C nr,F sr,E ar lr cr] 30)) Lr ar lr:=ap.kept (by simp) (fun i hi hl=>⟨⟨by rcases hi with h | h;exact h.1;exact .inr (by have:V.heap.size≤i:=h;omega),by omega⟩,Below.heap_alloc u1 _ i hl⟩) _ _ _ hLr
         with_reducible exact⟨u1.heap.size,ar,lr,cr,er,rfl,rfl,ae u1 _,k1.size,hlr,hq,k1.alloc k1.size _,hee⟩)
      | (have eP:∀X:World,(((X.setCell ⟨V.heap.size,0,none⟩ (D C kr)).setCell ⟨V.heap.size,1,none⟩ (D C nr)).setCell ⟨V.heap.size,2,none⟩ (F sr)).setCell ⟨V.heap.size,3,none⟩ (E ar lr cr)=au X V.heap.size 0 [D C kr,D C nr,F sr,E ar lr cr]:=fun _=>rfl
         rw[eP]
         have hne:∀i,(((i<w0.heap.size∨w.heap.size+3≤i)∧i<V.heap.size)∨(V.drew.alloc (H #[D C 0,D C 0,F ⟨#[]⟩,E none 0 0] 30)).heap.size≤i)→i<u1.heap.size→(i<w0.heap.size∨w.heap.size+3≤i)∧i≠V.heap.size:=fun i hi hl=>by
          rcases hi with h | h
          ·exact⟨h.1,by omega⟩
          ·have:V.heap.size+1≤i:=by simpa using h
           exact⟨.inr (by omega),by omega⟩
         exact⟨V.heap.size,ar,lr,cr,er,rfl,rfl,dh hp rfl _ _ _ _,I _,hlr,ap.kept (by rw[aD];exact I _) (fun i hi hl=>⟨hne i hi hl,aB _ _ _ u1 i (hne i hi hl).2⟩) _ _ _ hLr,k1.trans (aE V.heap.size _ _ u1),hee⟩)
    case rest=>
    obtain⟨p,ar,lr,cr,er,rfl,rfl,hpb,hpV,hlr,hLr,kx,hee⟩:=hcut
    have hplt:p<wc.heap.size:=lt_block' hpb
    obtain⟨o0,o1,o2,o3⟩:=ai hpb
    simp at o0 o1 o2 o3
    have HLR:=aa hLr
    have HKX:=aa (af HWV.out kx)
    have HPB:=aa hpb
    have HEE:=aa hee
    have HWX:=aa (HBV.out.trans (kx.mono hV3))
    have HKV:=aa kx
    clear x0 x1 x2 x3 y0 y1 y2 y3 hpb hLr kx hee c5 z5
    by_cases he:er=0
    ·subst he
     have hV0:Below w0.heap.size w0 wc:=HW.out.trans (HKX.out.mono HSZ.out)
     have HRI:=aa (jn (B:=B) kr nr sr ar lr cr Lr wc (Nat.le_trans HBB.out hV0.size) (HTB.out.below (hV0.mono HBB.out)) hsr HCR.out.cw.inT (ap.lies _ _ _ HLR.out))
     have hck:(chk 6 (.node kr nr sr Lr)==0)=true:=by rw[beq_iff_eq,jh 6 _ HCR.out.cw.inT];exact HCR.out
     rw[hck] at HRI
     clear hV0 hck
     go_wp2_with fail
     refine HRI.out.mono ?_
     rintro e u3 ⟨rfl,k3⟩
     have hpb:=(k3.block p hplt).trans HPB.out
     clear o0 o1 o2 o3
     obtain⟨o0,o1,o2,o3⟩:=ai hpb
     simp at o0 o1 o2 o3
     have hplt3:p<u3.heap.size:=lt_block' hpb
     have HL3:=aa (HLR.out.below k3)
     have HK3:=aa (af HKX.out k3)
     have HX3:=aa (HWX.out.trans (k3.mono (by have:=HKV.out.size;omega)))
     clear hpb k3
     have HQ:=aa (HR1.out u3 HX3.out)
     obtain⟨⟨r0,r1,r2,r3⟩,hsq⟩:=bX HQ.out
     obtain⟨f0,f1,f2,f3⟩:=aq HQ.out
     go_wp2_with fail
     obtain⟨Y,eY,⟨t0,t1,t2,t3⟩,hbb,hoth,hsz⟩:=ba (w:=w) HQ.out rfl (HK3.out) (by omega) (D C kr) (D C nr) (F sr) (E ar lr cr)
     rw[eY]
     exact bodyPost_ret (v:=vC (kr) (nr) sr ar lr cr) (by simp[results,Tryz.results12,go_sem,t0,t1,t2,t3]) rfl ⟨⟨kr,nr,sr,ar,lr,cr,Lr,rfl,HVE.out,hlr,hsr,ap.kept (A':=fun i=>i<w0.heap.size∨w.heap.size≤i) (by omega) (fun j hj hjl=>⟨by rcases hj.1 with h | h;exact .inl h;exact .inr (by omega),hoth j (by have h1:=HSZ.out;rcases hj.1 with h | h<;>omega)⟩) _ _ _ HL3.out⟩,hbb⟩
    ·have he':(er != 0)=true:=by simp[he]
     have HVE2:Hid (opF o (A.map G)=aw):=HVE.out.trans (HEE.out he)
     have HQ:=aa (HR1.out wc HWX.out)
     obtain⟨⟨r0,r1,r2,r3⟩,hsq⟩:=bX HQ.out
     obtain⟨f0,f1,f2,f3⟩:=aq HQ.out
     go_wp2_with fail
     obtain⟨Y,eY,⟨t0,t1,t2,t3⟩,hbb,hoth,hsz⟩:=ba (w:=w) HQ.out rfl (HKX.out) (by omega) (D C 0) (D C 0) (F ⟨#[]⟩) (E none 0 0)
     rw[eY]
     exact bodyPost_ret (v:=vC (0) (0) ⟨#[]⟩ none 0 0) (by simp[results,Tryz.results12,go_sem,t0,t1,t2,t3]) rfl ⟨(by rw[HVE2.out];exact aL.null),hbb⟩
end Go.Proofs.YtijjpoohhgapoaaGreatDoor
