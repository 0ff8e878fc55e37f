import Derived.Test.YtijjpoohhgapoaaGreatDoorVQAN
import Derived.Test.YtijjpoohhgapoaaGreatDoorVQAH
namespace Go.Proofs.YtijjpoohhgapoaaGreatDoor
open Go.RowKit
set_option linter.unusedVariables false
set_option maxHeartbeats 8000000
set_option maxRecDepth 100000
open Value renaming string → A, int → C, slice → D, agg → H
open IntKind renaming i64 → B
open Obj renaming cells → F
open Ending renaming returned → G
open RowKit.Below renaming heap_alloc → I
open Nat renaming le_refl → J
open List renaming exists_cons_of_length_pos → K
mutual
theorem i3:∀t:T,cY t t=0
 | .node k n s L=>by rw[d7,iG,fi,fi,gH,lL L];rfl
theorem lL:∀L:List T,dC L L=0
 | []=>by unfold dC;rfl
 | t::ts=>by rw[ff,i3 t,lL ts];rfl
end
theorem iX:∀(N:Nat) (k n:Int) (s:ByteArray) (a:Option Addr) (l c:Nat) (L:List T) (k' n':Int) (s':ByteArray) (a':Option Addr) (l' c':Nat) (L':List T) (w:World),wtL L≤N→N≤9223372036854775806→wtL L'≤9223372036854775806→am w L a l→am w L' a' l' →
 Calls Tryz.prog 29 #[H #[C B k,C B n,A s,D a l c],H #[C B k',C B n',A s',D a' l' c']] w fun e w'=>e=G (C B (cY (.node k n s L) (.node k' n' s' L')))∧Below w.heap.size w w':=by
 intro N
 induction N using Nat.strongRecOn with
 | _ N ih=>
 intro k n s a l c L k' n' s' a' l' c' L' w hN hN2 hN' hL hL'
 rw[d7]
 by_cases hz:ex k n s k' n' s'=0
 ·obtain⟨rfl,rfl,rfl⟩:=jd hz
  rw[hz]
  have e:lex 0 (dC L L')=dC L L':=rfl
  rw[e]
  have hlen:=hL.length.1
  have hlen':=hL'.length.1
  have hb:=ki L
  have hb':=ki L'
  by_cases h0:l=0∨l'=0
  ·refine f8 k n s a a' l c l' c' _ w (by omega) (by omega) h0 ?_ ?_ ?_
   ·intro e
    have e1:L = []:=List.length_eq_zero_iff.1 (by omega)
    have e2:L' = []:=List.length_eq_zero_iff.1 (by omega)
    rw[e1,e2,ga]
   ·intro e
    have e1:L = []:=List.length_eq_zero_iff.1 (by omega)
    obtain⟨u,us,e2⟩:∃u us,L'=u::us:=K (by omega)
    rw[e1,e2,dY]
   ·intro e
    have e1:L' = []:=List.length_eq_zero_iff.1 (by omega)
    obtain⟨u,us,e2⟩:∃u us,L=u::us:=K (by omega)
    rw[e1,e2,dZ]
  ·obtain⟨b,off,_,rfl,hbb,_⟩:=hL.get (i:=0) (by omega)
   obtain⟨b',off',_,rfl,hbb',_⟩:=hL'.get (i:=0) (by omega)
   have:=jr k n s b off l c b' off' l' c' (cK w b off) (cK w b' off') (iq L L') (dJ l l') w hbb hbb' hL.listAt hL'.listAt (by omega) (by omega) (by intro e;simp[dJ,e]) (by intro e;simp[dJ,e]) (by intro e;simp only[dJ];rw[if_neg (by omega),if_pos e]) (fun i hi hi' w' hw'=>by
    obtain⟨kt,nt,st,Lt,at',lt,ct,_,hd,p0,p1,p2,p3,hlc,hLt,hwt⟩:=hL.at hi
    obtain⟨ku,nu,su,Lu,au',lu,cu,_,hd',q0,q1,q2,q3,hluc,hLu,hwu⟩:=hL'.at hi'
    rw[fm p0 p1 p2 p3,fm q0 q1 q2 q3,j3 hd hd']
    exact ih (wtL Lt) (by omega) kt nt st at' lt ct Lt ku nu su au' lu cu Lu w' (J _) (by omega) (by omega) (hLt.below hw' _ _ _) (hLu.below hw' _ _ _))
   rw[hlen,hlen',gl] at this
   rw[hlen,hlen']
   exact this
 ·have e:lex (ex k n s k' n' s') (dC L L')=ex k n s k' n' s':=by unfold lex;rw[if_neg hz]
  rw[e]
  exact f7 k n s a l c k' n' s' a' l' c' w hz
theorem oH (b:Nat):∀L:List T,(∀t ∈ L,wtT t≤b)→wtL L≤L.length*b+1
 | [],_=>by simp[wtL]
 | t::ts,h=>by
   have h1:=oH b ts (fun u hu=>h u (List.mem_cons_of_mem _ hu))
   have h2:=h t (List.mem_cons_self ..)
   rw[wtL,List.length_cons,Nat.add_mul]
   omega
theorem wm:∀(d:Nat) (t:T),Ck d t→wtT t≤2*32 ^ d:=by
 intro d
 induction d with
 | zero=>
   intro t h
   cases h<;>simp[wtT,wtL]
 | succ d ih=>
   intro t h
   have hp:0<32 ^ d:=Nat.pow_pos (by decide)
   have e:2*32 ^ (d+1)=64*32 ^ d:=by rw[Nat.pow_succ];omega
   rw[e]
   cases h with
   | null=>simp only[wtT,wtL];omega
   | bool=>simp only[wtT,wtL];omega
   | int=>simp only[wtT,wtL];omega
   | text=>simp only[wtT,wtL];omega
   | list _ L h0 h1=>
     have h2:=oH (2*32 ^ d) L (fun t ht=>ih t (h1 t ht))
     have h3:L.length*(2*32 ^ d)≤30*(2*32 ^ d):=Nat.mul_le_mul_right _ h0
     simp only[wtT]
     omega
theorem vi {k n:Int} {s:ByteArray} {L:List T} (h:Ck 6 (.node k n s L)):wtL L≤1099511627776:=by
 have:=wm 6 _ h
 simp only[wtT] at this
 have e:2*32 ^ 6=2147483648:=by decide
 omega
theorem iU (k n:Int) (s:ByteArray) (L:List T) (a:Option Addr) (l c:Nat) (a':Option Addr) (l' c':Nat) (w:World) (hw:wtL L≤1099511627776) (h:am w L a l) (h':am w L a' l') :
 Calls Tryz.prog 11 #[H #[C B k,C B n,A s,D a l c],H #[C B k,C B n,A s,D a' l' c']] w fun e w'=>e=G (.bool true)∧Below w.heap.size w w':=
 ii k n s a l c k n s a' l' c' 0 w fun w' k'=>by
  have:=iX (wtL L) k n s a l c L k n s a' l' c' L w' (J _) (by omega) (by omega) (h.below k') (h'.below k')
  rw[i3] at this
  exact this
theorem fg (w:World):Calls Tryz.prog 10 #[H #[C B 0,C B 0,A ⟨#[]⟩,D none 0 0]] w fun e w'=>e=G (.bool true)∧Below w.heap.size w w':=by
 have HS:Hid (∀W,Calls Tryz.prog 11 #[H #[C B 0,C B 0,A ⟨#[]⟩,D none 0 0],H #[C B 0,C B 0,A ⟨#[]⟩,D none 0 0]] W fun e w'=>e=G (.bool true)∧Below W.heap.size W w'):=fun W=>iU 0 0 ⟨#[]⟩ [] none 0 0 none 0 0 W (by decide) (by unfold am;rfl) (by unfold am;rfl)
 go_enter Tryz.func10,Tryz.ntmps10
 go_wp2_with fail
 refine(HS.out _).mono ?_
 rintro e w1 ⟨rfl,k1⟩
 go_wp2_with fail
 go_ret
 exact⟨rfl,((Below.refl _ _).alloc (J _) _).trans (k1.mono (by simp))⟩
def vA (P:List Pr) (name:ByteArray) (e:Ending):Prop:=(bP P name=none∧e=G zvV)∨∃p,bP P name=some p∧p ∈ P∧e=G (H #[C B p.k,C B p.n,A p.s,D p.a p.l p.c])
theorem o5 (P:List Pr) (pa:Option Addr) (pl pc:Nat) (name:ByteArray) (w:World) (h:aX w P pa pl) :
 Calls Tryz.prog 30 #[D pa pl pc,A name] w fun e w'=>vA P name e∧Below w.heap.size w w':=by
 obtain⟨hl,hmx,hat⟩:=h
 have HPL:=aa hl
 have HAT:=aa hat
 clear hl hat
 have b0:Below w.heap.size w (w.alloc (F #[C B 0,C B 0,A ⟨#[]⟩,D none 0 0] 30)):=(Below.refl _ _).alloc (J _) _
 have z0:(w.alloc (F #[C B 0,C B 0,A ⟨#[]⟩,D none 0 0] 30)).heap.size=w.heap.size+1:=by simp
 have hy:=ae w (F #[C B 0,C B 0,A ⟨#[]⟩,D none 0 0] 30)
 have HY:Hid (∀W,Below (w.heap.size+1) (w.alloc (F #[C B 0,C B 0,A ⟨#[]⟩,D none 0 0] 30)) W→W.heap[w.heap.size]? = some (F #[C B 0,C B 0,A ⟨#[]⟩,D none 0 0] 30 (0,0))):=fun W k=>(k.block _ (by omega)).trans hy
 have B0:=aa b0
 have Z0:=aa z0
 clear hy b0 z0
 have HQ:Hid (bP P name=bP (P.drop 0) name):=rfl
 go_enter Tryz.func30,Tryz.ntmps30
 go_wp2_with fail
 go_loopg [9] pl (fun g s9 wr=>∃i:Nat,i≤pl∧pl-i≤g∧s9=C B i∧Below (w.heap.size+1) (w.alloc (F #[C B 0,C B 0,A ⟨#[]⟩,D none 0 0] 30)) wr∧bP P name=bP (P.drop i) name)
 case atStart=>exact⟨0,Nat.zero_le _,by omega,rfl,Below.refl _ _,HQ.out⟩
 case round=>
  clear HQ
  obtain⟨i,hi,hg,rfl,hbw,hfe⟩:=hrel
  have HQ:=aa hfe
  clear hfe
  have hz:w.heap.size+1≤wr.heap.size:=by have:=hbw.size;rw[Z0.out] at this;exact this
  have hw0:Below w.heap.size w wr:=B0.out.trans (hbw.mono (by omega))
  have hlx:w.heap.size<wr.heap.size:=by omega
  by_cases hlt:i<pl
  ·obtain⟨b,off,ha,hb,hc⟩:=HAT.out (by omega)
   subst ha
   obtain⟨p,hp,hd⟩:=aF (L:=P) (i:=i) (by have:=HPL.out;omega)
   obtain⟨hsz,c0,c1,c2,c3,c4⟩:=hc i p hp
   have q:∀o,wr.cell? ⟨b,o,none⟩=w.cell? ⟨b,o,none⟩:=fun o=>hw0.cell (p:=⟨b,o,none⟩) hb
   have d0:=(q _).trans c0
   have d1:=(q _).trans c1
   have d2:=(q _).trans c2
   have d3:=(q _).trans c3
   have d4:=(q _).trans c4
   have HD:=aa hd
   have HPM:=aa (List.mem_of_getElem? hp)
   clear hc hd hp c0 c1 c2 c3 c4 q
   have HBX:=aa (hbw.alloc hz (F #[A p.name,C B p.k,C B p.n,A p.s,D p.a p.l p.c] 90))
   have BX:=aa (hw0.alloc hw0.size (F #[A p.name,C B p.k,C B p.n,A p.s,D p.a p.l p.c] 90))
   cases hnm:(p.name.toList==name.toList) with
   | true=>
     have HFP:=aa (show bP P name=some p by rw[HQ.out,HD.out,bP,List.find?_cons_of_pos (by simpa using hnm)])
     have HRX:=aa (HY.out wr hbw)
     clear HQ HD
     obtain⟨r0,r1,r2,r3⟩:=ai HRX.out
     simp at r0 r1 r2 r3
     obtain⟨g0,g1,g2,g3⟩:=aq HRX.out
     have HE:=aa ((I (bC wr w.heap.size (C B p.k) (C B p.n) (A p.s) (D p.a p.l p.c)) (F #[A p.name,C B p.k,C B p.n,A p.s,D p.a p.l p.c] 90) w.heap.size (by rw[fd];exact hlx)).trans (aQ HRX.out (C B p.k) (C B p.n) (A p.s) (D p.a p.l p.c)))
     have HBB:=aa ((hw0.trans (fe wr w.heap.size (C B p.k) (C B p.n) (A p.s) (D p.a p.l p.c))).alloc (by rw[fd];exact hw0.size) (F #[A p.name,C B p.k,C B p.n,A p.s,D p.a p.l p.c] 90))
     clear HRX
     go_wp2_with fail
     have eP:∀X:World,(((X.setCell ⟨w.heap.size,0,none⟩ (C B p.k)).setCell ⟨w.heap.size,1,none⟩ (C B p.n)).setCell ⟨w.heap.size,2,none⟩ (A p.s)).setCell ⟨w.heap.size,3,none⟩ (D p.a p.l p.c)=bC X w.heap.size (C B p.k) (C B p.n) (A p.s) (D p.a p.l p.c):=fun _=>rfl
     rw[eP]
     have E:=HE.out
     have hbb:=HBB.out
     clear HE HBB
     generalize (bC wr w.heap.size (C B p.k) (C B p.n) (A p.s) (D p.a p.l p.c)).alloc (F #[A p.name,C B p.k,C B p.n,A p.s,D p.a p.l p.c] 90)=Y at E hbb ⊢
     obtain⟨t0,t1,t2,t3⟩:=ai E
     simp at t0 t1 t2 t3
     exact bodyPost_ret (v:=H #[(C B p.k),(C B p.n),(A p.s),(D p.a p.l p.c)]) (by simp[results,Tryz.results30,go_sem,t0,t1,t2,t3]) rfl ⟨.inr ⟨p,HFP.out,HPM.out,rfl⟩,hbb⟩
   | false=>
     have HQ2:=aa (show bP P name=bP (P.drop (i+1)) name by rw[HQ.out,HD.out,bP,List.find?_cons_of_neg (by simpa using hnm)];rfl)
     clear HQ HD
     go_wp2_with fail
     go_roundg (pl-(i+1))
     case measure=>omega
     case rel=>exact⟨i+1,by omega,by omega,by go_num,HBX.out,HQ2.out⟩
  ·have HFP:=aa (show bP P name=none by rw[HQ.out,List.drop_eq_nil_of_le (by have:=HPL.out;omega)];rfl)
   have HRX:=aa (HY.out wr hbw)
   have BX:=aa hw0
   clear HQ hw0 hbw
   obtain⟨r0,r1,r2,r3⟩:=ai HRX.out
   simp at r0 r1 r2 r3
   obtain⟨g0,g1,g2,g3⟩:=aq HRX.out
   have HE:=aa (aQ HRX.out (C B 0) (C B 0) (A ⟨#[]⟩) (D none 0 0))
   have HBB:=aa (BX.out.trans (fe wr w.heap.size (C B 0) (C B 0) (A ⟨#[]⟩) (D none 0 0)))
   clear HRX
   go_wp2_with fail
   have eP:∀X:World,(((X.setCell ⟨w.heap.size,0,none⟩ (C B 0)).setCell ⟨w.heap.size,1,none⟩ (C B 0)).setCell ⟨w.heap.size,2,none⟩ (A ⟨#[]⟩)).setCell ⟨w.heap.size,3,none⟩ (D none 0 0)=bC X w.heap.size (C B 0) (C B 0) (A ⟨#[]⟩) (D none 0 0):=fun _=>rfl
   rw[eP]
   have E:=HE.out
   have hbb:=HBB.out
   clear HE HBB
   generalize bC wr w.heap.size (C B 0) (C B 0) (A ⟨#[]⟩) (D none 0 0)=Y at E hbb ⊢
   obtain⟨t0,t1,t2,t3⟩:=ai E
   simp at t0 t1 t2 t3
   exact bodyPost_ret (v:=H #[(C B 0),(C B 0),(A ⟨#[]⟩),(D none 0 0)]) (by simp[results,Tryz.results30,go_sem,t0,t1,t2,t3]) rfl ⟨.inl ⟨HFP.out,rfl⟩,hbb⟩

theorem three_alloc (w:World) (o1 o2 o3:Obj):(((w.alloc o1).alloc o2).alloc o3).heap[w.heap.size]? = some o1∧(((w.alloc o1).alloc o2).alloc o3).heap[w.heap.size+1]? = some o2∧(((w.alloc o1).alloc o2).alloc o3).heap[w.heap.size+2]? = some o3:=by
 refine⟨?_,?_,?_⟩
 ·rw[I _ _ _ (by simp;omega),I _ _ _ (by simp)]
  exact ae w o1
 ·rw[I _ _ _ (by simp)]
  exact ay w o1 o2
 ·have:=ae ((w.alloc o1).alloc o2) o3
  simpa using this
theorem set4_here {w:World} {b:Nat} {t:TypeId} {x0 x1 x2 x3:Value} (h:w.heap[b]? = some (F #[x0,x1,x2,x3] t (0,0))) (v0 v1 v2 v3:Value):((((w.setCell ⟨b,0,none⟩ v0).setCell ⟨b,1,none⟩ v1).setCell ⟨b,2,none⟩ v2).setCell ⟨b,3,none⟩ v3).heap[b]? = some (F #[v0,v1,v2,v3] t (0,0)):=by
 simp[World.setCell,Array.getElem?_modify,h]
end Go.Proofs.YtijjpoohhgapoaaGreatDoor
