import Derived.Lib.ValidLaws
import Derived.Lib.IndexMore
import Derived.Test.YtijjpoohhgapoaaGreatDoorShelfN
import Derived.Test.YtijjpoohhgapoaaGreatDoorVQAZ
namespace Go.Proofs.YtijjpoohhgapoaaGreatDoor
open Go.RowKit
set_option linter.unusedVariables false
set_option linter.unusedSimpArgs false
set_option maxHeartbeats 4000000
set_option maxRecDepth 100000
open Value renaming string → B, int → D, slice → J, agg → O
open IntKind renaming i64 → C
open List renaming toList_toArray → E, mem_cons_self → F, mem_cons_of_mem → G, isPrefixOf → I, cons_append → U
open Ending renaming returned → H
open Nat renaming le_refl → K
open Obj renaming cells → M
open Bool renaming and_eq_true → N, false_eq_true → Q
open Th renaming zero → S
theorem mG {n m b0 b1 b2 b3 c1 c2 c3:Nat} (hn:n≤m) (hp:1≤n) (h1:1<n→c1=b1) (h2:2<n→c2=b2) (h3:3<n→c3=b3) (hne:Lib.decodeN n b0 b1 b2 b3≠(65533,1)):Lib.decodeN m b0 c1 c2 c3=Lib.decodeN n b0 b1 b2 b3∧(Lib.decodeN n b0 b1 b2 b3).2≤n∧1≤(Lib.decodeN n b0 b1 b2 b3).2:=by
 by_cases h0:b0<128
 ·have e:∀n b1 b2 b3,Lib.decodeN n b0 b1 b2 b3=(b0,1):=fun n b1 b2 b3=>by unfold Lib.decodeN;rw[if_pos h0]
  rw[e,e]
  exact⟨rfl,hp,K _⟩
 by_cases a2:b0 / 32=6∧(1<n∧b1 / 64=2)
 ·have e1:=h1 a2.2.1
  subst e1
  have e:Lib.decodeN m b0 c1 c2 c3=Lib.decodeN n b0 c1 b2 b3:=by
   unfold Lib.decodeN
   rw[if_neg h0,if_neg h0,if_pos (show b0 / 32=6∧(1<m∧c1 / 64=2) from⟨a2.1,by omega,a2.2.2⟩),if_pos a2]
  refine⟨e,?_⟩
  unfold Lib.decodeN
  rw[if_neg h0,if_pos a2]
  split
  ·exact⟨a2.2.1,by show 1≤2;omega⟩
  ·exact⟨hp,K _⟩
 by_cases a3:b0 / 16=14∧(1<n∧b1 / 64=2)∧(2<n∧b2 / 64=2)
 ·have e1:=h1 a3.2.1.1
  have e2:=h2 a3.2.2.1
  subst e1 e2
  have e:Lib.decodeN m b0 c1 c2 c3=Lib.decodeN n b0 c1 c2 b3:=by
   unfold Lib.decodeN
   rw[if_neg h0,if_neg h0,if_neg (show ¬(b0 / 32=6∧(1<m∧c1 / 64=2)) from fun g=>by have:=a3.1;have:=g.1;omega),if_neg a2,if_pos (show b0 / 16=14∧(1<m∧c1 / 64=2)∧(2<m∧c2 / 64=2) from⟨a3.1,⟨by omega,a3.2.1.2⟩,⟨by omega,a3.2.2.2⟩⟩),if_pos a3]
  refine⟨e,?_⟩
  unfold Lib.decodeN
  rw[if_neg h0,if_neg a2,if_pos a3]
  split
  ·exact⟨a3.2.2.1,by show 1≤3;omega⟩
  ·exact⟨hp,K _⟩
 by_cases a4:b0 / 8=30∧(1<n∧b1 / 64=2)∧(2<n∧b2 / 64=2)∧(3<n∧b3 / 64=2)
 ·have e1:=h1 a4.2.1.1
  have e2:=h2 a4.2.2.1.1
  have e3:=h3 a4.2.2.2.1
  subst e1 e2 e3
  have e:Lib.decodeN m b0 c1 c2 c3=Lib.decodeN n b0 c1 c2 c3:=by
   unfold Lib.decodeN
   rw[if_neg h0,if_neg h0,if_neg (show ¬(b0 / 32=6∧(1<m∧c1 / 64=2)) from fun g=>by have:=a4.1;have:=g.1;omega),if_neg a2,if_neg (show ¬(b0 / 16=14∧(1<m∧c1 / 64=2)∧(2<m∧c2 / 64=2)) from fun g=>by have:=a4.1;have:=g.1;omega),if_neg a3,if_pos (show b0 / 8=30∧(1<m∧c1 / 64=2)∧(2<m∧c2 / 64=2)∧(3<m∧c3 / 64=2) from⟨a4.1,⟨by omega,a4.2.1.2⟩,⟨by omega,a4.2.2.1.2⟩,⟨by omega,a4.2.2.2.2⟩⟩),if_pos a4]
  refine⟨e,?_⟩
  unfold Lib.decodeN
  rw[if_neg h0,if_neg a2,if_neg a3,if_pos a4]
  split
  ·exact⟨a4.2.2.2.1,by show 1≤4;omega⟩
  ·exact⟨hp,K _⟩
 ·exfalso
  apply hne
  unfold Lib.decodeN
  rw[if_neg h0,if_neg a2,if_neg a3,if_neg a4]
theorem ie:∀(n:Nat) (a b:List UInt8),a.length≤n→Lib.validD a=true→Lib.validD b=true→Lib.validD (a++b)=true
 | 0,a,b,hn,ha,hb=>by
   have:a = []:=List.length_eq_zero_iff.1 (by omega)
   subst this
   exact hb
 | n+1,a,b,hn,ha,hb=>by
   by_cases h0:a = []
   ·subst h0
    exact hb
   have hl:0<a.length:=List.length_pos_iff.2 h0
   have hg:∀i,i<a.length→(a++b).getD i 0=a.getD i 0:=fun i hi=>by
    rw[List.getD_eq_getElem?_getD,List.getD_eq_getElem?_getD,List.getElem?_append_left hi]
   rw[Lib.validD_step a h0] at ha
   split at ha
   ·cases ha
   ·rename_i hne
    rw[Lib.decodeL_N] at hne ha
    have key:=mG (n:=a.length) (m:=(a++b).length) (b0:=(a.getD 0 0).toNat) (b1:=(a.getD 1 0).toNat) (b2:=(a.getD 2 0).toNat) (b3:=(a.getD 3 0).toNat) (c1:=((a++b).getD 1 0).toNat) (c2:=((a++b).getD 2 0).toNat) (c3:=((a++b).getD 3 0).toNat) (by simp) hl (fun h=>by rw[hg 1 h]) (fun h=>by rw[hg 2 h]) (fun h=>by rw[hg 3 h]) (fun e=>hne (by rw[e];exact⟨rfl,rfl⟩))
    obtain⟨k1,k2,k3⟩:=key
    rw[Lib.validD_step (a++b) (by simp[h0]),Lib.decodeL_N,hg 0 hl,k1,if_neg hne,List.drop_append_of_le_length k2]
    exact ie n _ b (by rw[List.length_drop];omega) ha hb
theorem j7:∀(l:List UInt8) (i:Nat),cM i l=true→∀b ∈ l,b.toNat<128
 | [],_,_,b,hb=>by cases hb
 | c::r,i,h,b,hb=>by
   unfold cM at h
   rw[N] at h
   rcases List.mem_cons.1 hb with rfl | hb
   ·have h1:=h.1
    unfold kg kN at h1
    simp only[Bool.or_eq_true,N,decide_eq_true_eq,beq_iff_eq] at h1
    omega
   ·exact j7 r (i+1) h.2 b hb
theorem pe {s:ByteArray} (h:nm s=true):Lib.validD s.data.toList=true:=by
 have h2:cM 0 s.data.toList=true:=by
  unfold nm at h
  rw[N] at h
  exact h.2
 rw[Lib.validD_ascii s.data.toList.length _ (fun b hb=>j7 _ 0 h2 b (List.mem_of_mem_take hb)),List.drop_length]
 rfl
theorem Ck.up:∀{d:Nat} {t:T},Ck d t→Ck (d+1) t:=by
 intro d t h
 induction h with
 | null d=>exact .null _
 | bool d n h=>exact .bool _ n h
 | int d n h0 h1=>exact .int _ n h0 h1
 | text d s h0 h1=>exact .text _ s h0 h1
 | list d L h0 h1 ih=>exact .list _ L h0 ih
theorem ow (d:Nat) (b:Bool):Ck d (ei b):=.bool d _ (by cases b<;>simp)
theorem bL (d:Nat):Ck d aw:=.null d
theorem qp {t:T}:Ck 6 (cG t):=by
 obtain⟨k,n,s,L⟩:=t
 show Ck 6 (if k=1 then ei (n==0) else aw)
 split
 ·exact ow _ _
 ·exact bL _
theorem qq {x y:T}:Ck 6 (cq x y):=by
 unfold cq cI
 have:=dk x y
 split
 ·exact .null _
 ·rename_i h
  refine .bool _ _ ?_
  rcases this with h1 | h1 | h1
  ·exact .inl h1
  ·exact .inr h1
  ·exact absurd h1 h
theorem tR {x y:T}:Ck 6 (cy x y):=by
 obtain⟨k,n,s,L⟩:=x
 obtain⟨k',n',s',L'⟩:=y
 unfold cy bz
 simp only
 split
 ·refine .bool _ _ ?_
  split
  ·exact .inr rfl
  ·exact .inl rfl
 ·exact .null _
theorem uq {L:List T} (h:∀t ∈ L,Ck 6 t):Ck 6 (hdT L):=by
 cases L with
 | nil=>exact bL _
 | cons t ts=>exact h t (F ..)
theorem iH (m:Int) (hm:m=0∨m=1) (all:Nat):∀(L:List T) (o:Nat),(∀t ∈ L,Ck 6 t)→Ck 6 (bA m all L o)
 | [],o,_=>by
   unfold bA
   split
   ·exact bL _
   ·exact .bool _ _ (by omega)
 | .node k n s Lt::r,o,h=>by
   show Ck 6 (if k=1 then (if n=m then .node k n s Lt else bA m all r (o+1)) else bA m all r o)
   have h1:=h _ (F ..)
   have h2:∀t ∈ r,Ck 6 t:=fun t ht=>h t (G _ ht)
   split
   ·split
    ·exact h1
    ·exact iH m hm all r _ h2
   ·exact iH m hm all r _ h2
theorem qr:∀(L:List T),(∀t ∈ L,Ck 6 t)→Ck 6 (ej L)
 | [],_=>bL _
 | .node k n s Lt::r,h=>by
   show Ck 6 (if k=0 then ej r else .node k n s Lt)
   split
   ·exact qr r fun t ht=>h t (G _ ht)
   ·exact h _ (F ..)
theorem mK (sg:UInt8) {x y:T} (hx:Ck 6 x) (hy:Ck 6 y):Ck 6 (f6 sg x y):=by
 obtain⟨k1,n1,s1,L1⟩:=x
 obtain⟨k2,n2,s2,L2⟩:=y
 rw[gu]
 split
 ·exact bL _
 ·split
  ·generalize (if sg=43 then n1+n2 else if sg=45 then n1-n2 else n1*n2)=z
   unfold aH
   split
   ·rename_i hf
    have:=(aJ z).1 hf
    exact .int _ _ this.1 this.2
   ·exact .null _
  ·split
   ·split
    ·rename_i hn1 hn2 h3 hs
     obtain⟨_,rfl,rfl⟩:=h3
     cases hx with
     | text _ _ g0 g1=>
       cases hy with
       | text _ _ q0 q1=>exact .text _ _ (by rw[ByteArray.size_append];exact hs) (by rw[ByteArray.data_append,Array.toList_append];exact ie _ _ _ (K _) g1 q1)
    ·exact bL _
   ·split
    ·rename_i h4
     split
     ·rename_i h5
      obtain⟨_,rfl,rfl⟩:=h4
      cases hx with
      | list _ _ g0 g1=>
        cases hy with
        | list _ _ q0 q1=>
          refine .list _ _ (by rw[List.length_append];exact h5) fun t ht=>?_
          rcases List.mem_append.1 ht with ht | ht
          ·exact g1 t ht
          ·exact q1 t ht
     ·exact bL _
    ·exact bL _
theorem hC {g:T→T→T} {L:List T} (h:∀t ∈ L,Ck 6 t) (hg:∀x y,Ck 6 x→Ck 6 y→Ck 6 (g x y)):Ck 6 (on2 g L):=by
 match L,h with
 | [],_=>exact bL _
 | [x],_=>exact bL _
 | x::y::r,h=>exact hg x y (h x (F ..)) (h y (G _ (F ..)))
theorem wt (i:Nat) {L:List T} (h:∀t ∈ L,Ck 6 t):Ck 6 (opF i L):=by
 have hh:=uq h
 match i with
 | 0=>exact hC h fun x y hx hy=>mK _ hx hy
 | 1=>exact hC h fun x y hx hy=>mK _ hx hy
 | 2=>exact hC h fun x y hx hy=>mK _ hx hy
 | 3=>exact hC h fun x y _ _=>qq
 | 4=>exact hC h fun x y _ _=>tR
 | 5=>exact hC h fun x y _ _=>qp
 | 6=>exact qp
 | 7=>exact iH 1 (.inr rfl) _ L 0 h
 | 8=>exact iH 0 (.inl rfl) _ L 0 h
 | 9=>
   refine hC h fun x y _ _=>?_
   obtain⟨k,n,s,Lt⟩:=y
   show Ck 6 (if k=4 then bG 1 (Lt.map (cq x)) else aw)
   split
   ·exact iH 1 (.inr rfl) _ (Lt.map (cq x)) 0 fun t ht=>by
     obtain⟨u,_,rfl⟩:=List.mem_map.1 ht
     exact qq
   ·exact bL _
 | 10=>
   show Ck 6 (fJ (hdT L))
   obtain⟨k,n,s,Lt⟩:=hdT L
   exact ow _ _
 | 11=>
   show Ck 6 (ni (hdT L))
   generalize hdT L=u at hh
   obtain⟨k,n,s,Lt⟩:=u
   obtain⟨h1,h2,_,_⟩:=hh.cw.parts
   show Ck 6 (if k=3 then eL (Lib.runeCount s) else if k=4 then eL Lt.length else aw)
   split
   ·exact .int _ _ (by omega) (ny s h1)
   ·split
    ·exact .int _ _ (by omega) (by omega)
    ·exact bL _
 | 12=>
   show Ck 6 (n6 (hdT L))
   generalize hdT L=u at hh
   obtain⟨k,n,s,Lt⟩:=u
   show Ck 6 (if k=4 then hdT Lt else aw)
   split
   ·rename_i hk
    subst hk
    cases hh with
    | list _ _ g0 g1=>exact uq fun t ht=>(g1 t ht).up
   ·exact bL _
 | 13=>exact qr L h
 | 14=>
   show Ck 6 (eI L)
   unfold eI
   split
   ·rename_i hc
    exact(jg _ _).1 hc
   ·exact bL _
 | i+15=>exact hh
theorem mL {env:ByteArray→Option Th} (he:eK env) (hv:∀s x,env s=some x→Lib.validD x.typ.data.toList=true):∀(d:Nat) (t:Tm),aS env d t→Ck 6 (aI env d t)
 | 0,t,h=>h.elim
 | d+1,.node k v nmx A,h=>by
   obtain⟨_,h⟩:=h
   have hz:∀s,((env s).getD S).typ.size≤4000∧(-9223372036854775808≤((env s).getD S).id∧((env s).getD S).id≤9223372036854775807)∧∀p ∈ ((env s).getD S).props,Ck 6 p.t:=by
    intro s
    cases hx:env s with
    | none=>exact⟨by show 0≤4000;omega,by show(-9223372036854775808:Int)≤0∧(0:Int)≤_;omega,fun p hp=>by cases hp⟩
    | some x=>obtain⟨h1,h2,h3⟩:=he s x hx;exact⟨h2,h1,h3⟩
   rcases h with⟨rfl,_,_,_,hc⟩ | ⟨rfl,_,_,_⟩ | ⟨rfl,_,x,rfl,_,_⟩ | ⟨rfl,_,ha,i,hi,_,_,_⟩
   ·exact hc
   ·exact .int _ _ (hz nmx).2.1.1 (hz nmx).2.1.2
   ·show Ck 6 (cR nmx ((env x.name).getD S))
    unfold cR
    cases hf:((env x.name).getD S).props.find? (fun p=>p.name.toList==nmx.toList) with
    | none=>exact bL _
    | some p=>exact((hz x.name).2.2 p (List.mem_of_find?_eq_some hf))
   ·show Ck 6 (fj env A (A.map (aI env d)) (bN nmx))
    rw[hi]
    show Ck 6 (if i=16 then kH env (fun x=>.node 3 0 x.typ []) A else opF i (A.map (aI env d)))
    split
    ·cases A with
     | nil=>exact bL _
     | cons x r=>
       refine .text _ _ (hz x.name).1 ?_
       cases hx:env x.name with
       | none=>rfl
       | some y=>exact hv _ y hx
    ·exact wt i fun t ht=>by
      obtain⟨y,hy,rfl⟩:=List.mem_map.1 ht
      exact mL he hv d y (ha y hy)
theorem tK (sub:List UInt8):Lib.contains [] sub=sub.isEmpty:=by
 unfold Lib.contains
 rw[Lib.index]
 cases sub<;>simp
theorem kG (b:UInt8) (l sub:List UInt8):Lib.contains (b::l) sub=(sub.isPrefixOf (b::l)||Lib.contains l sub):=by
 unfold Lib.contains
 rw[Lib.index]
 have hge:=Lib.index_ge l sub
 by_cases h1:sub.isPrefixOf (b::l)=true
 ·rw[if_pos h1,h1]
  simp
 ·rw[if_neg h1]
  have h2:sub.isPrefixOf (b::l)=false:=Bool.eq_false_iff.2 h1
  rw[h2,Bool.false_or]
  by_cases h3:Lib.index l sub = -1
  ·simp[h3]
  ·have h4:(Lib.index l sub == -1)=false:=by simpa using h3
   rw[h4]
   simp only[Q,if_false]
   by_cases h5:0≤Lib.index l sub
   ·simp[h5];omega
   ·omega
theorem qz (c:UInt8):∀l:List UInt8,decide (0≤Lib.indexByte l c)=decide (c ∈ l)
 | []=>by simp[Lib.indexByte]
 | b::l=>by
   have ih:=qz c l
   rw[decide_eq_decide] at ih ⊢
   rw[Lib.indexByte]
   by_cases h1:b=c
   ·subst h1
    simp
   ·have h2:(b==c)=false:=by simpa using h1
    rw[h2]
    simp only[Q,if_false,List.mem_cons]
    have h3:¬c=b:=fun e=>h1 e.symm
    by_cases h4:Lib.indexByte l c = -1
    ·have h5:c ∉ l:=fun h=>by have:=ih.2 h;omega
     simp[h4,h3,h5]
    ·have h5:(Lib.indexByte l c == -1)=false:=by simpa using h4
     rw[h5]
     simp only[Q,if_false]
     constructor
     ·intro h
      refine .inr (ih.1 ?_)
      omega
     ·rintro(h | h)
      ·exact absurd h h3
      ·have:=ih.2 h
       omega
theorem lA (t r:List UInt8):∀w:List UInt8,(32:UInt8) ∉ w→Lib.contains (w++r) (32::t)=Lib.contains r (32::t)
 | [],_=>rfl
 | b::w,h=>by
   have hb:(32:UInt8)≠b:=fun e=>h (by rw[e];exact F ..)
   have hb':((32:UInt8)==b)=false:=by simpa using hb
   rw[U,kG,lA t r w (fun hm=>h (G _ hm))]
   rw[I,hb']
   rfl
theorem n5 (rest:List UInt8):∀s w:List UInt8,(32:UInt8) ∉ s→(32:UInt8) ∉ w→(s ++ [32]).isPrefixOf (w++32::rest)=(s==w)
 | [],[],_,_=>by simp[I]
 | [],b::w,_,hw=>by
   have hb:((32:UInt8)==b)=false:=by
    have:(32:UInt8)≠b:=fun e=>hw (by rw[e];exact F ..)
    simpa using this
   simp[I,hb]
 | a::s,[],hs,_=>by
   have ha:(a==(32:UInt8))=false:=by
    have:a≠(32:UInt8):=fun e=>hs (by rw[e];exact F ..)
    simpa using this
   simp[I,ha]
 | a::s,b::w,hs,hw=>by
   have ih:=n5 rest s w (fun h=>hs (G _ h)) (fun h=>hw (G _ h))
   rw[U,U,I,ih]
   rfl
theorem lS (s:List UInt8) (hs:(32:UInt8) ∉ s):∀ws:List (List UInt8),(∀w ∈ ws,(32:UInt8) ∉ w)→Lib.contains (32::ws.flatMap (· ++ [32])) (32::(s ++ [32]))=ws.any fun w=>s==w
 | [],_=>by
   rw[List.flatMap_nil,kG,tK]
   cases s<;>simp[I]
 | w::ws,h=>by
   have hw:=h w (F ..)
   have ih:=lS s hs ws fun x hx=>h x (G _ hx)
   have e:(w::ws).flatMap (· ++ [32])=w++32::ws.flatMap (· ++ [32]):=by simp
   rw[e,kG,lA _ _ w hw,ih,List.any_cons]
   have h1:(32::(s ++ [32])).isPrefixOf (32::(w++32::ws.flatMap (· ++ [32])))=(s==w):=by
    rw[I]
    simp only[beq_self_eq_true,Bool.true_and]
    exact n5 _ s w hs hw
   rw[h1]
theorem jj:(∀w ∈ du,(32:UInt8) ∉ w)∧∀w ∈ du,w ≠ []:=by decide
theorem uE (s:List UInt8):(du.any fun w=>s==w)=(!s.isEmpty&&(!decide (0≤Lib.indexByte s 32)&&Lib.contains (32::du.flatMap (· ++ [32])) (32::(s ++ [32])))):=by
 rw[qz]
 by_cases h1:(32:UInt8) ∈ s
 ·have h2:(du.any fun w=>s==w)=false:=by
   rw[List.any_eq_false]
   intro w hw e
   have e':s=w:=by simpa using e
   rw[e'] at h1
   exact jj.1 w hw h1
  rw[h2]
  simp[h1]
 ·rw[lS s h1 du jj.1]
  cases s with
  | nil=>decide
  | cons a s=>simp[h1]
theorem uy:((⟨([32,109,97,116,99,104,32,119,104,101,114,101,32,114,101,116,117,114,110,32,100,105,115,116,105,110,99,116,32,97,115,32,97,110,100,32,111,114,32,110,111,116,32,105,110,32,105,115,32,110,117,108,108,32,116].append [114,117,101,32,102,97,108,115,101,32,99,111,117,110,116,32,115,117,109,32,109,105,110,32,109,97,120,32,115,105,122,101,32,104,101,97,100,32,99,111,97,108,101,115,99,101,32,105,100,32,116,121,112,101,32]:List UInt8).toArray⟩:ByteArray).size<4294967281):=by decide
theorem gd (s:ByteArray) (m:Int) (w:World) (hs:s.size≤1099511627776) (hm:w.cell? ⟨2,0,none⟩=some (D C m)):Calls Tryz.prog 61 #[B s] w fun e w'=>e=H (.bool (bv s))∧w'=w:=by
 have HC1:Hid (Calls Tryz.prog 97 #[B s,B ⟨#[32]⟩] w fun e w'=>e=H (.bool (decide (0≤Lib.indexByte s.data.toList 32)))∧w'=w):=Any.strings_Contains_one Tryz.containsLay s 32 w
 have HC2:Hid (∀h sub:ByteArray,h.size<4294967281→Calls Tryz.prog 97 #[B h,B sub] w fun e w'=>e=H (.bool (Lib.contains h.data.toList sub.data.toList))∧w'=w):=fun h sub hh=>Any.strings_Contains Tryz.containsLay h sub m w hh hm
 have HR:Hid (bv s=(!s.data.toList.isEmpty&&(!decide (0≤Lib.indexByte s.data.toList 32)&&Lib.contains (32::du.flatMap (· ++ [32])) (32::(s.data.toList ++ [32]))))):=by
  show _=_
  rw[←uE]
  unfold bv
  rw[ByteArray.toList_eq]
 clear hm
 obtain⟨R,hR⟩:∃R,R=bv s:=⟨_,rfl⟩
 rw[←hR] at HR ⊢
 clear hR
 by_cases h0:s=⟨#[]⟩
 ·subst h0
  have H3:Hid (R=false):=by show _=_;rw[HR.out];rfl
  clear HR HC1 HC2
  go_enter Tryz.func61,Tryz.ntmps61
  go_wp2_with fail
  go_ret
  exact⟨aP (by rw[H3.out]),rfl⟩
 ·have he:=bp h0
  have he2:s.data.toList.isEmpty=false:=by rw[←ByteArray.toList_eq];exact he
  rw[he2] at HR
  generalize decide (0≤Lib.indexByte s.data.toList 32)=f1 at HC1 HR
  clear h0 he2
  go_enter Tryz.func61,Tryz.ntmps61
  go_wp2_with fail
  refine HC1.out.mono ?_
  rintro e w1 ⟨rfl,rfl⟩
  cases f1 with
  | true=>
    have H3:Hid (R=false):=by show _=_;rw[HR.out];rfl
    go_wp2_with fail
    go_ret
    exact⟨aP (by rw[H3.out]),rfl⟩
  | false=>
    have hs1:¬(9223372036854775807<1+s.size):=by omega
    go_wp2_with fail
    refine(HC2.out _ _ (by decide)).mono ?_
    rintro e w2 ⟨rfl,rfl⟩
    have H3:Hid (R=Lib.contains (32::du.flatMap (· ++ [32])) (({ data:=#[32] }++s ++ { data:=#[32] }:ByteArray)).data.toList):=by
     show _=_
     rw[HR.out]
     have e1:(({ data:=#[32] }++s ++ { data:=#[32] }:ByteArray)).data.toList=32::(s.data.toList ++ [32]):=by simp
     rw[e1]
     rfl
    generalize ({ data:=#[32] }++s ++ { data:=#[32] }:ByteArray)=sub at H3 ⊢
    go_wp2_with fail
    go_ret
    exact⟨aP (by rw[H3.out];rfl),rfl⟩
theorem uV (s:ByteArray) (m:Int) (w:World) (hs:s.size≤1099511627776) (hm:w.cell? ⟨2,0,none⟩=some (D C m)) (hl:2<w.heap.size):Calls Tryz.prog 23 #[B s] w fun e w'=>e=H (.bool (cW s))∧Below w.heap.size w w':=by
 have HN:=aa (dT s w (by omega))
 have HRV:Hid (∀W,Below w.heap.size w W→Calls Tryz.prog 61 #[B s] W fun e w'=>e=H (.bool (bv s))∧w'=W):=fun W k=>gd s m W hs ((k.cell hl).trans hm)
 clear hm
 go_enter Tryz.func23,Tryz.ntmps23
 go_wp2_with fail
 refine HN.out.mono ?_
 rintro e u1 ⟨rfl,k1⟩
 have HK:=aa k1
 cases hn:nm s with
 | false=>
   go_wp2_with fail
   go_ret
   exact⟨aP (by simp[cW,hn]),HK.out⟩
 | true=>
   go_wp2_with fail
   refine(HRV.out u1 HK.out).mono ?_
   rintro e u2 ⟨rfl,rfl⟩
   go_wp2_with fail
   go_ret
   exact⟨aP (by simp[cW,hn]),HK.out⟩
def cn (w:World) (m:Nat) (f:ByteArray→Option Int):Prop:=∃es clk,w.heap[m]? = some (.map es clk)∧cm es.toList∧∀s,bH s es.toList=(f s).map fun v=>D C v
theorem cn.below {w w':World} {m:Nat} {f:ByteArray→Option Int} (h:cn w m f) (k:Below w.heap.size w w'):cn w' m f:=by
 obtain⟨es,clk,h1,h2,h3⟩:=h
 exact⟨es,clk,(k.block m (Array.getElem?_eq_some_iff.1 h1).1).trans h1,h2,h3⟩
theorem mY (w:World):(zeroValue 3).run Tryz.prog w = .ok (D C 0) w:=by kernel_rfl
theorem cn.look {w:World} {m:Nat} {f:ByteArray→Option Int} (h:cn w m f) (s:ByteArray):(Instr.lookup 38 (.map (some m)) (B s) false).run Tryz.prog w = .ok (D C ((f s).getD 0)) w:=by
 obtain⟨es,clk,h1,h2,h3⟩:=h
 have r1:=bn (P:=Tryz.prog) (w:=w) Tryz.underlying38 Tryz.underlying9 h1 h2 s (mY w) false
 rw[h3 s] at r1
 cases hf:f s with
 | none=>rw[hf] at r1;exact r1
 | some v=>rw[hf] at r1;exact r1
theorem o7 (a:Option Addr) (l c:Nat) (w:World) (hl:l≤9223372036854775807) (z:Int) (hz:z=if l=0 then 0 else 1) :
  Calls Tryz.prog 29 #[O #[D C 0,D C 0,B ⟨#[]⟩,J a l c],O #[D C 0,D C 0,B ⟨#[]⟩,J none 0 0]] w fun e w'=>e=H (D C z)∧Below w.heap.size w w':=by
 have HZ:=aa hz
 clear hz
 go_enter Tryz.func29,Tryz.ntmps29
 go_wp2_with fail
 go_loopg [5] 0 (fun g s5 wr=>s5=D C 0∧wr=(w.alloc (M #[D C 0,D C 0,B ⟨#[]⟩,J a l c] 30)).alloc (M #[D C 0,D C 0,B ⟨#[]⟩,J none 0 0] 30))
 case atStart=>exact⟨rfl,rfl⟩
 case round=>
  obtain⟨rfl,rfl⟩:=hrel
  have hw0:Below w.heap.size w ((w.alloc (M #[D C 0,D C 0,B ⟨#[]⟩,J a l c] 30)).alloc (M #[D C 0,D C 0,B ⟨#[]⟩,J none 0 0] 30)):=((Below.refl _ _).alloc (K _) _).alloc (by simp) _
  by_cases h2:0<l
  ·have hz:=aa (show z=1 from HZ.out.trans (if_neg (by omega)))
   have e1:(0:Int)<(l:Int):=by omega
   have e3:¬(l:Int)<0:=by omega
   clear HZ
   go_wp2_with fail
   go_ret
   exact⟨ag (by rw[hz.out]),hw0⟩
  ·have hl0:l=0:=by omega
   subst hl0
   have hz:=aa (show z=0 from HZ.out.trans (if_pos rfl))
   clear HZ
   go_wp2_with fail
   go_ret
   exact⟨ag (by rw[hz.out]),hw0⟩
theorem rB (k n:Int) (s:ByteArray):ex k n s k n s=0:=by
 have h:=i3 (.node k n s [])
 unfold cY at h
 split at h
 ·assumption
 ·exact h
theorem e8 (k n:Int) (s:ByteArray) (a:Option Addr) (l c:Nat) (L:List T) (w:World) (hL:L.length=l) (hl:l≤9223372036854775807):Calls Tryz.prog 11 #[O #[D C k,D C n,B s,J a l c],O #[D C 0,D C 0,B ⟨#[]⟩,J none 0 0]] w fun e w'=>e=H (.bool (cQ (.node k n s L)))∧Below w.heap.size w w':=by
 by_cases h:ex k n s 0 0 ⟨#[]⟩=0
 ·obtain⟨rfl,rfl,rfl⟩:=jd h
  have:=ii 0 0 ⟨#[]⟩ a l c 0 0 ⟨#[]⟩ none 0 0 (if l=0 then 0 else 1) w fun w' _=>o7 a l c w' hl _ rfl
  refine dm this fun e w' hh=>⟨?_,hh.2⟩
  rw[hh.1]
  rw[show cQ (.node 0 0 ⟨#[]⟩ L)=decide (L.length=0) from by simp[cQ],hL]
  by_cases h0:l=0<;>simp[h0]
 ·have:=ii k n s a l c 0 0 ⟨#[]⟩ none 0 0 _ w fun w' _=>f7 k n s a l c 0 0 ⟨#[]⟩ none 0 0 w' h
  refine dm this fun e w' hh=>⟨?_,hh.2⟩
  rw[hh.1]
  have e1:(ex k n s 0 0 ⟨#[]⟩==0)=false:=by simpa using h
  rw[e1]
  cases hb:cQ (.node k n s L) with
  | false=>rfl
  | true=>
    exfalso
    have:=(bT _).1 hb
    unfold aw at this
    injection this with e1 e2 e3 e4
    subst e1 e2 e3
    exact h (rB 0 0 ⟨#[]⟩)
theorem sf {s:ByteArray} (h:nm s=true):s.size≤1099511627776:=by
 unfold nm at h
 simp only[N,decide_eq_true_eq] at h
 omega
theorem pr (s:ByteArray) (m:Int) (w:World) (hs:s.size≤9223372036854775807) (hm:w.cell? ⟨2,0,none⟩=some (D C m)) (hl:2<w.heap.size):Calls Tryz.prog 23 #[B s] w fun e w'=>e=H (.bool (cW s))∧Below w.heap.size w w':=by
 have HN:=aa (dT s w hs)
 have HMH:=aa hm
 clear hm
 go_enter Tryz.func23,Tryz.ntmps23
 go_wp2_with fail
 refine HN.out.mono ?_
 rintro e u1 ⟨rfl,k1⟩
 have HK:=aa k1
 cases hn:nm s with
 | false=>
   go_wp2_with fail
   go_ret
   exact⟨aP (by simp[cW,hn]),HK.out⟩
 | true=>
   have HRV:Hid (∀W,Below w.heap.size w W→Calls Tryz.prog 61 #[B s] W fun e w'=>e=H (.bool (bv s))∧w'=W):=fun W k=>gd s m W (sf hn) ((k.cell hl).trans HMH.out)
   go_wp2_with fail
   refine(HRV.out u1 HK.out).mono ?_
   rintro e u2 ⟨rfl,rfl⟩
   go_wp2_with fail
   go_ret
   exact⟨aP (by simp[cW,hn]),HK.out⟩
def iR:List MapEntry:=[⟨B ⟨#[43]⟩,D C 2,0⟩,⟨B ⟨#[45]⟩,D C 2,1⟩,⟨B ⟨#[42]⟩,D C 2,2⟩,⟨B ⟨#[61]⟩,D C 2,3⟩,⟨B ⟨#[60]⟩,D C 2,4⟩,⟨B ⟨#[60,61]⟩,D C 2,5⟩,⟨B ⟨#[97,110,100]⟩,D C 2,6⟩,⟨B ⟨#[111,114]⟩,D C 2,7⟩,⟨B ⟨#[105,110]⟩,D C 2,8⟩,⟨B ⟨#[110,111,116]⟩,D C 1,9⟩,⟨B ⟨#[110,117,108,108]⟩,D C 1,10⟩,⟨B ⟨#[115,105,122,101]⟩,D C 1,11⟩,⟨B ⟨#[104,101,97,100]⟩,D C 1,12⟩,⟨B ⟨#[105,100]⟩,D C 1,13⟩,⟨B ⟨#[116,121,112,101]⟩,D C 1,14⟩,⟨B ⟨#[99,111,97,108,101,115,99,101]⟩,D C (-1),15⟩,⟨B ⟨#[108,105,115,116]⟩,D C (-1),16⟩]
theorem qT:cm iR:=by
 intro e he
 simp only[iR,List.mem_cons,List.not_mem_nil,or_false] at he
 rcases he with rfl | rfl | rfl | rfl | rfl | rfl | rfl | rfl | rfl | rfl | rfl | rfl | rfl | rfl | rfl | rfl | rfl<;>exact⟨_,rfl⟩
theorem km {nm:ByteArray}:∀(ks:List (List UInt8)) (j:Nat),fK nm ks j=none→∀x ∈ ks,(nm==⟨x.toArray⟩)=false
 | [],j,_,x,hx=>by cases hx
 | k::ks,j,h,x,hx=>by
   unfold fK at h
   split at h
   ·cases h
   ·rename_i hk
    rcases List.mem_cons.1 hx with rfl | hx
    ·simpa using hk
    ·exact km ks (j+1) h x hx
theorem oQ (nm:ByteArray):bH nm iR=(bN nm).map fun i=>D C (an i):=by
 cases ho:bN nm with
 | none=>
   have h:=km dp 0 ho
   have hh:∀x:List UInt8,x ∈ dp→∀(v:Value) (i:Nat) (es:List MapEntry),bH nm (⟨B ⟨x.toArray⟩,v,i⟩::es)=bH nm es:=fun x hx v i es=>by
    show(if (nm==⟨x.toArray⟩)=true then some v else bH nm es)=bH nm es
    rw[h x hx,if_neg (by simp)]
   unfold iR
   rw[show(⟨B ⟨#[43]⟩,D C 2,0⟩:MapEntry)=⟨B ⟨([43]:List UInt8).toArray⟩,D C 2,0⟩ from rfl,hh [43] (by decide)]
   rw[show(⟨B ⟨#[45]⟩,D C 2,1⟩:MapEntry)=⟨B ⟨([45]:List UInt8).toArray⟩,D C 2,1⟩ from rfl,hh [45] (by decide)]
   rw[show(⟨B ⟨#[42]⟩,D C 2,2⟩:MapEntry)=⟨B ⟨([42]:List UInt8).toArray⟩,D C 2,2⟩ from rfl,hh [42] (by decide)]
   rw[show(⟨B ⟨#[61]⟩,D C 2,3⟩:MapEntry)=⟨B ⟨([61]:List UInt8).toArray⟩,D C 2,3⟩ from rfl,hh [61] (by decide)]
   rw[show(⟨B ⟨#[60]⟩,D C 2,4⟩:MapEntry)=⟨B ⟨([60]:List UInt8).toArray⟩,D C 2,4⟩ from rfl,hh [60] (by decide)]
   rw[show(⟨B ⟨#[60,61]⟩,D C 2,5⟩:MapEntry)=⟨B ⟨([60,61]:List UInt8).toArray⟩,D C 2,5⟩ from rfl,hh [60,61] (by decide)]
   rw[show(⟨B ⟨#[97,110,100]⟩,D C 2,6⟩:MapEntry)=⟨B ⟨([97,110,100]:List UInt8).toArray⟩,D C 2,6⟩ from rfl,hh [97,110,100] (by decide)]
   rw[show(⟨B ⟨#[111,114]⟩,D C 2,7⟩:MapEntry)=⟨B ⟨([111,114]:List UInt8).toArray⟩,D C 2,7⟩ from rfl,hh [111,114] (by decide)]
   rw[show(⟨B ⟨#[105,110]⟩,D C 2,8⟩:MapEntry)=⟨B ⟨([105,110]:List UInt8).toArray⟩,D C 2,8⟩ from rfl,hh [105,110] (by decide)]
   rw[show(⟨B ⟨#[110,111,116]⟩,D C 1,9⟩:MapEntry)=⟨B ⟨([110,111,116]:List UInt8).toArray⟩,D C 1,9⟩ from rfl,hh [110,111,116] (by decide)]
   rw[show(⟨B ⟨#[110,117,108,108]⟩,D C 1,10⟩:MapEntry)=⟨B ⟨([110,117,108,108]:List UInt8).toArray⟩,D C 1,10⟩ from rfl,hh [110,117,108,108] (by decide)]
   rw[show(⟨B ⟨#[115,105,122,101]⟩,D C 1,11⟩:MapEntry)=⟨B ⟨([115,105,122,101]:List UInt8).toArray⟩,D C 1,11⟩ from rfl,hh [115,105,122,101] (by decide)]
   rw[show(⟨B ⟨#[104,101,97,100]⟩,D C 1,12⟩:MapEntry)=⟨B ⟨([104,101,97,100]:List UInt8).toArray⟩,D C 1,12⟩ from rfl,hh [104,101,97,100] (by decide)]
   rw[show(⟨B ⟨#[105,100]⟩,D C 1,13⟩:MapEntry)=⟨B ⟨([105,100]:List UInt8).toArray⟩,D C 1,13⟩ from rfl,hh [105,100] (by decide)]
   rw[show(⟨B ⟨#[116,121,112,101]⟩,D C 1,14⟩:MapEntry)=⟨B ⟨([116,121,112,101]:List UInt8).toArray⟩,D C 1,14⟩ from rfl,hh [116,121,112,101] (by decide)]
   rw[show(⟨B ⟨#[99,111,97,108,101,115,99,101]⟩,D C (-1),15⟩:MapEntry)=⟨B ⟨([99,111,97,108,101,115,99,101]:List UInt8).toArray⟩,D C (-1),15⟩ from rfl,hh [99,111,97,108,101,115,99,101] (by decide)]
   rw[show(⟨B ⟨#[108,105,115,116]⟩,D C (-1),16⟩:MapEntry)=⟨B ⟨([108,105,115,116]:List UInt8).toArray⟩,D C (-1),16⟩ from rfl,hh [108,105,115,116] (by decide)]
   rfl
 | some o=>
   have hlt:=ir ho
   obtain⟨x,h1,h2⟩:=gb ho
   have:o=0∨o=1∨o=2∨o=3∨o=4∨o=5∨o=6∨o=7∨o=8∨o=9∨o=10∨o=11∨o=12∨o=13∨o=14∨o=15∨o=16:=by omega
   rcases this with rfl | rfl | rfl | rfl | rfl | rfl | rfl | rfl | rfl | rfl | rfl | rfl | rfl | rfl | rfl | rfl | rfl<;>(cases h1;subst h2;show _=_;kernel_rfl)
theorem eF (w:World):∃X1 X2 X3 X4 X5 X6 X7 X8 X9 X10 X11 X12 X13 X14 X15 X16 X17:World,(Instr.mapUpdate 38 (.map (some w.heap.size)) (B ⟨#[43]⟩) (D C 2)).run Tryz.prog (w.alloc (.map #[] 0)) = .ok () X1∧(Instr.mapUpdate 38 (.map (some w.heap.size)) (B ⟨#[45]⟩) (D C 2)).run Tryz.prog X1 = .ok () X2∧(Instr.mapUpdate 38 (.map (some w.heap.size)) (B ⟨#[42]⟩) (D C 2)).run Tryz.prog X2 = .ok () X3∧(Instr.mapUpdate 38 (.map (some w.heap.size)) (B ⟨#[61]⟩) (D C 2)).run Tryz.prog X3 = .ok () X4∧(Instr.mapUpdate 38 (.map (some w.heap.size)) (B ⟨#[60]⟩) (D C 2)).run Tryz.prog X4 = .ok () X5∧(Instr.mapUpdate 38 (.map (some w.heap.size)) (B ⟨#[60,61]⟩) (D C 2)).run Tryz.prog X5 = .ok () X6∧(Instr.mapUpdate 38 (.map (some w.heap.size)) (B ⟨#[97,110,100]⟩) (D C 2)).run Tryz.prog X6 = .ok () X7∧(Instr.mapUpdate 38 (.map (some w.heap.size)) (B ⟨#[111,114]⟩) (D C 2)).run Tryz.prog X7 = .ok () X8∧(Instr.mapUpdate 38 (.map (some w.heap.size)) (B ⟨#[105,110]⟩) (D C 2)).run Tryz.prog X8 = .ok () X9∧(Instr.mapUpdate 38 (.map (some w.heap.size)) (B ⟨#[110,111,116]⟩) (D C 1)).run Tryz.prog X9 = .ok () X10∧(Instr.mapUpdate 38 (.map (some w.heap.size)) (B ⟨#[110,117,108,108]⟩) (D C 1)).run Tryz.prog X10 = .ok () X11∧(Instr.mapUpdate 38 (.map (some w.heap.size)) (B ⟨#[115,105,122,101]⟩) (D C 1)).run Tryz.prog X11 = .ok () X12∧(Instr.mapUpdate 38 (.map (some w.heap.size)) (B ⟨#[104,101,97,100]⟩) (D C 1)).run Tryz.prog X12 = .ok () X13∧(Instr.mapUpdate 38 (.map (some w.heap.size)) (B ⟨#[105,100]⟩) (D C 1)).run Tryz.prog X13 = .ok () X14∧(Instr.mapUpdate 38 (.map (some w.heap.size)) (B ⟨#[116,121,112,101]⟩) (D C 1)).run Tryz.prog X14 = .ok () X15∧(Instr.mapUpdate 38 (.map (some w.heap.size)) (B ⟨#[99,111,97,108,101,115,99,101]⟩) (D C (-1))).run Tryz.prog X15 = .ok () X16∧(Instr.mapUpdate 38 (.map (some w.heap.size)) (B ⟨#[108,105,115,116]⟩) (D C (-1))).run Tryz.prog X16 = .ok () X17∧BK w X17 iR []:=by
 have h0:=BK.start w
 have q0:cm []:=fun e he=>by cases he
 have r0:=al (P:=Tryz.prog) Tryz.underlying38 Tryz.underlying9 h0.blk (by rw[E];exact q0) ⟨#[43]⟩ (by kernel_rfl) (D C 2)
 have q1:=q0.snoc ⟨#[43]⟩ (D C 2) 0
 have h1:=h0.insert ⟨B ⟨#[43]⟩,D C 2,0⟩
 have r1:=al (P:=Tryz.prog) Tryz.underlying38 Tryz.underlying9 h1.blk (by rw[E];exact q1) ⟨#[45]⟩ (by kernel_rfl) (D C 2)
 have q2:=q1.snoc ⟨#[45]⟩ (D C 2) 1
 have h2:=h1.insert ⟨B ⟨#[45]⟩,D C 2,1⟩
 have r2:=al (P:=Tryz.prog) Tryz.underlying38 Tryz.underlying9 h2.blk (by rw[E];exact q2) ⟨#[42]⟩ (by kernel_rfl) (D C 2)
 have q3:=q2.snoc ⟨#[42]⟩ (D C 2) 2
 have h3:=h2.insert ⟨B ⟨#[42]⟩,D C 2,2⟩
 have r3:=al (P:=Tryz.prog) Tryz.underlying38 Tryz.underlying9 h3.blk (by rw[E];exact q3) ⟨#[61]⟩ (by kernel_rfl) (D C 2)
 have q4:=q3.snoc ⟨#[61]⟩ (D C 2) 3
 have h4:=h3.insert ⟨B ⟨#[61]⟩,D C 2,3⟩
 have r4:=al (P:=Tryz.prog) Tryz.underlying38 Tryz.underlying9 h4.blk (by rw[E];exact q4) ⟨#[60]⟩ (by kernel_rfl) (D C 2)
 have q5:=q4.snoc ⟨#[60]⟩ (D C 2) 4
 have h5:=h4.insert ⟨B ⟨#[60]⟩,D C 2,4⟩
 have r5:=al (P:=Tryz.prog) Tryz.underlying38 Tryz.underlying9 h5.blk (by rw[E];exact q5) ⟨#[60,61]⟩ (by kernel_rfl) (D C 2)
 have q6:=q5.snoc ⟨#[60,61]⟩ (D C 2) 5
 have h6:=h5.insert ⟨B ⟨#[60,61]⟩,D C 2,5⟩
 have r6:=al (P:=Tryz.prog) Tryz.underlying38 Tryz.underlying9 h6.blk (by rw[E];exact q6) ⟨#[97,110,100]⟩ (by kernel_rfl) (D C 2)
 have q7:=q6.snoc ⟨#[97,110,100]⟩ (D C 2) 6
 have h7:=h6.insert ⟨B ⟨#[97,110,100]⟩,D C 2,6⟩
 have r7:=al (P:=Tryz.prog) Tryz.underlying38 Tryz.underlying9 h7.blk (by rw[E];exact q7) ⟨#[111,114]⟩ (by kernel_rfl) (D C 2)
 have q8:=q7.snoc ⟨#[111,114]⟩ (D C 2) 7
 have h8:=h7.insert ⟨B ⟨#[111,114]⟩,D C 2,7⟩
 have r8:=al (P:=Tryz.prog) Tryz.underlying38 Tryz.underlying9 h8.blk (by rw[E];exact q8) ⟨#[105,110]⟩ (by kernel_rfl) (D C 2)
 have q9:=q8.snoc ⟨#[105,110]⟩ (D C 2) 8
 have h9:=h8.insert ⟨B ⟨#[105,110]⟩,D C 2,8⟩
 have r9:=al (P:=Tryz.prog) Tryz.underlying38 Tryz.underlying9 h9.blk (by rw[E];exact q9) ⟨#[110,111,116]⟩ (by kernel_rfl) (D C 1)
 have q10:=q9.snoc ⟨#[110,111,116]⟩ (D C 1) 9
 have h10:=h9.insert ⟨B ⟨#[110,111,116]⟩,D C 1,9⟩
 have r10:=al (P:=Tryz.prog) Tryz.underlying38 Tryz.underlying9 h10.blk (by rw[E];exact q10) ⟨#[110,117,108,108]⟩ (by kernel_rfl) (D C 1)
 have q11:=q10.snoc ⟨#[110,117,108,108]⟩ (D C 1) 10
 have h11:=h10.insert ⟨B ⟨#[110,117,108,108]⟩,D C 1,10⟩
 have r11:=al (P:=Tryz.prog) Tryz.underlying38 Tryz.underlying9 h11.blk (by rw[E];exact q11) ⟨#[115,105,122,101]⟩ (by kernel_rfl) (D C 1)
 have q12:=q11.snoc ⟨#[115,105,122,101]⟩ (D C 1) 11
 have h12:=h11.insert ⟨B ⟨#[115,105,122,101]⟩,D C 1,11⟩
 have r12:=al (P:=Tryz.prog) Tryz.underlying38 Tryz.underlying9 h12.blk (by rw[E];exact q12) ⟨#[104,101,97,100]⟩ (by kernel_rfl) (D C 1)
 have q13:=q12.snoc ⟨#[104,101,97,100]⟩ (D C 1) 12
 have h13:=h12.insert ⟨B ⟨#[104,101,97,100]⟩,D C 1,12⟩
 have r13:=al (P:=Tryz.prog) Tryz.underlying38 Tryz.underlying9 h13.blk (by rw[E];exact q13) ⟨#[105,100]⟩ (by kernel_rfl) (D C 1)
 have q14:=q13.snoc ⟨#[105,100]⟩ (D C 1) 13
 have h14:=h13.insert ⟨B ⟨#[105,100]⟩,D C 1,13⟩
 have r14:=al (P:=Tryz.prog) Tryz.underlying38 Tryz.underlying9 h14.blk (by rw[E];exact q14) ⟨#[116,121,112,101]⟩ (by kernel_rfl) (D C 1)
 have q15:=q14.snoc ⟨#[116,121,112,101]⟩ (D C 1) 14
 have h15:=h14.insert ⟨B ⟨#[116,121,112,101]⟩,D C 1,14⟩
 have r15:=al (P:=Tryz.prog) Tryz.underlying38 Tryz.underlying9 h15.blk (by rw[E];exact q15) ⟨#[99,111,97,108,101,115,99,101]⟩ (by kernel_rfl) (D C (-1))
 have q16:=q15.snoc ⟨#[99,111,97,108,101,115,99,101]⟩ (D C (-1)) 15
 have h16:=h15.insert ⟨B ⟨#[99,111,97,108,101,115,99,101]⟩,D C (-1),15⟩
 have r16:=al (P:=Tryz.prog) Tryz.underlying38 Tryz.underlying9 h16.blk (by rw[E];exact q16) ⟨#[108,105,115,116]⟩ (by kernel_rfl) (D C (-1))
 have q17:=q16.snoc ⟨#[108,105,115,116]⟩ (D C (-1)) 16
 have h17:=h16.insert ⟨B ⟨#[108,105,115,116]⟩,D C (-1),16⟩
 exact⟨_,_,_,_,_,_,_,_,_,_,_,_,_,_,_,_,_,r0,r1,r2,r3,r4,r5,r6,r7,r8,r9,r10,r11,r12,r13,r14,r15,r16,h17⟩
theorem eX {w W:World} (h:BK w W iR []):cn W w.heap.size fun s=>(bN s).map an:=by
 refine⟨_,_,h.blk,by simpa using qT,fun s=>?_⟩
 have:=oQ s
 rw[E,this]
 show _=Option.map _ ((bN s).map an)
 cases bN s<;>rfl
end Go.Proofs.YtijjpoohhgapoaaGreatDoor
