import Derived.Test.YtijjpoohhgapoaaGreatDoorVQAG
namespace Go.Proofs.YtijjpoohhgapoaaGreatDoor
open Go.RowKit
set_option linter.unusedVariables false
set_option maxHeartbeats 4000000
set_option maxRecDepth 100000
open IntKind renaming i64 → A
open Value renaming int → B, string → C, slice → D, agg → H
open Obj renaming cells → F
open Nat renaming le_refl → G
open Ending renaming returned → I
open RowKit.Below renaming refl → J, heap_alloc → M
theorem iQ (h:Bool) (w:World):Calls Tryz.prog 50 #[.bool h] w fun e w'=>e=I (H #[B A 1,B A (if h then 1 else 0),C ⟨#[]⟩,D none 0 0])∧Below w.heap.size w w':=by
 cases h with
 | true=>
   go_enter Tryz.func50,Tryz.ntmps50
   go_wp2_with fail
   exact bodyPost_ret (v:=H #[B A 1,B A 1,C ⟨#[]⟩,D none 0 0]) (by simp[results,Tryz.results50,go_sem]) rfl ⟨rfl,(J _ _).alloc (G _) _⟩
 | false=>
   go_enter Tryz.func50,Tryz.ntmps50
   go_wp2_with fail
   exact bodyPost_ret (v:=H #[B A 1,B A 0,C ⟨#[]⟩,D none 0 0]) (by simp[results,Tryz.results50,go_sem]) rfl ⟨rfl,(J _ _).alloc (G _) _⟩
theorem rh (k n:Int) (s:ByteArray) (a:Option Addr) (l c:Nat) (k' n':Int) (s':ByteArray) (a':Option Addr) (l' c':Nat) (w:World) (h:k≠k'∨(k≠2∧k≠3)) :
 Calls Tryz.prog 43 #[H #[B A k,B A n,C s,D a l c],H #[B A k',B A n',C s',D a' l' c']] w fun e w'=>e=I (H #[B A 0,B A 0,C ⟨#[]⟩,D none 0 0])∧Below w.heap.size w w':=by
 go_enter Tryz.func43,Tryz.ntmps43
 go_upto_region 1 with fail
 go_cut [19] (fun s19 wx=>s19 = .bool true∧wx=((w.alloc (F #[B A k,B A n,C s,D a l c] 30)).alloc (F #[B A k',B A n',C s',D a' l' c'] 30)).alloc (F #[B A 0,B A 0,C ⟨#[]⟩,D none 0 0] 30))
 case first=>
  by_cases e1:k=k'
  ·subst e1
   have h2:(k != 2)=true:=by simp;omega
   have h3:(k != 3)=true:=by simp;omega
   clear h
   go_wp2_with fail
   go_meet
   exact⟨rfl,rfl⟩
  ·have h2:(k != k')=true:=by simp[e1]
   clear h
   go_wp2_with fail
   go_meet
   exact⟨rfl,rfl⟩
 case rest=>
  obtain⟨rfl,rfl⟩:=hcut
  go_wp2_with fail
  exact bodyPost_ret (v:=H #[B A 0,B A 0,C ⟨#[]⟩,D none 0 0]) (by simp[results,Tryz.results43,go_sem]) rfl ⟨rfl,(((J _ _).alloc (G _) _).alloc (by simp) _).alloc (by simp;omega) _⟩
theorem cg (w:World) (o1 o2 o3:Obj):(((w.alloc o1).alloc o2).alloc o3).heap[w.heap.size+1+1]? = some o3:=by
 have:=ae ((w.alloc o1).alloc o2) o3
 rw[show((w.alloc o1).alloc o2).heap.size=w.heap.size+1+1 from by simp] at this
 exact this
theorem sq (k n:Int) (s:ByteArray) (a:Option Addr) (l c:Nat) (n':Int) (s':ByteArray) (a':Option Addr) (l' c':Nat) (z:Int) (w:World) (h:k=2∨k=3)
 (hO:∀W,Below w.heap.size w W→Calls Tryz.prog 80 #[H #[B A k,B A n,C s,D a l c],H #[B A k,B A n',C s',D a' l' c']] W fun e w'=>e=I (B A z)∧Below W.heap.size W w') :
 Calls Tryz.prog 43 #[H #[B A k,B A n,C s,D a l c],H #[B A k,B A n',C s',D a' l' c']] w fun e w'=>e=I (H #[B A 1,B A (if z<0 then 1 else 0),C ⟨#[]⟩,D none 0 0])∧Below w.heap.size w w':=by
 have HO:=aa hO
 obtain⟨y,hy⟩:∃y:Int,y=(if z<0 then 1 else 0):=⟨_,rfl⟩
 rw[←hy]
 have cT:Hid (∀W,Calls Tryz.prog 50 #[.bool (decide (z<0))] W fun e w'=>e=I (H #[B A 1,B A y,C ⟨#[]⟩,D none 0 0])∧Below W.heap.size W w'):=fun W=>by
  have:=iQ (decide (z<0)) W
  simp only[decide_eq_true_eq,←hy] at this
  exact this
 clear hO hy
 go_enter Tryz.func43,Tryz.ntmps43
 go_upto_region 1 with fail
 go_cut [19] (fun s19 wx=>s19 = .bool false∧wx=((w.alloc (F #[B A k,B A n,C s,D a l c] 30)).alloc (F #[B A k,B A n',C s',D a' l' c'] 30)).alloc (F #[B A 0,B A 0,C ⟨#[]⟩,D none 0 0] 30))
 case first=>
  rcases h with rfl | rfl
  ·go_wp2_with fail
   go_meet
   exact⟨rfl,rfl⟩
  ·go_wp2_with fail
   go_meet
   exact⟨rfl,rfl⟩
 case rest=>
  obtain⟨rfl,rfl⟩:=hcut
  have b0:Below w.heap.size w (((w.alloc (F #[B A k,B A n,C s,D a l c] 30)).alloc (F #[B A k,B A n',C s',D a' l' c'] 30)).alloc (F #[B A 0,B A 0,C ⟨#[]⟩,D none 0 0] 30)):=(((J _ _).alloc (G _) _).alloc (by simp) _).alloc (by simp;omega) _
  have hbox:=cg w (F #[B A k,B A n,C s,D a l c] 30) (F #[B A k,B A n',C s',D a' l' c'] 30) (F #[B A 0,B A 0,C ⟨#[]⟩,D none 0 0] 30)
  have hsz:(((w.alloc (F #[B A k,B A n,C s,D a l c] 30)).alloc (F #[B A k,B A n',C s',D a' l' c'] 30)).alloc (F #[B A 0,B A 0,C ⟨#[]⟩,D none 0 0] 30)).heap.size=w.heap.size+1+1+1:=by simp
  go_wp2_with fail
  refine(HO.out _ b0).mono ?_
  rintro e w1 ⟨rfl,k1⟩
  have c1:=(af b0 k1)
  have hb1:=(k1.block (w.heap.size+1+1) (by omega)).trans hbox
  have hs1:=k1.size
  go_wp2_with fail
  refine(cT.out _).mono ?_
  rintro e w2 ⟨rfl,k2⟩
  have c2:=(af c1 k2)
  have hb2:=(k2.block (w.heap.size+1+1) (by omega)).trans hb1
  obtain⟨x0,x1,x2,x3⟩:=ai hb2
  obtain⟨y0,y1,y2,y3⟩:=aq hb2
  simp at x0 x1 x2 x3
  have HB:=aa hb2
  clear hb2 hb1 hbox hsz
  go_wp2_with fail
  have zz:=aQ HB.out (B A 1) (B A y) (C ⟨#[]⟩) (D none 0 0)
  have zb:=aY w2 (w.heap.size+1+1) (B A 1) (B A y) (C ⟨#[]⟩) (D none 0 0)
  obtain⟨t0,t1,t2,t3⟩:=ai zz
  have eP:(((w2.setCell ⟨w.heap.size+1+1,0,none⟩ (B A 1)).setCell ⟨w.heap.size+1+1,1,none⟩ (B A y)).setCell ⟨w.heap.size+1+1,2,none⟩ (C ⟨#[]⟩)).setCell ⟨w.heap.size+1+1,3,none⟩ (D none 0 0)=bC w2 (w.heap.size+1+1) (B A 1) (B A y) (C ⟨#[]⟩) (D none 0 0):=rfl
  rw[eP]
  clear eP
  generalize bC w2 (w.heap.size+1+1) (B A 1) (B A y) (C ⟨#[]⟩) (D none 0 0)=W9 at zz zb t0 t1 t2 t3 ⊢
  simp at t0 t1 t2 t3
  exact bodyPost_ret (v:=H #[B A 1,B A y,C ⟨#[]⟩,D none 0 0]) (by simp[results,Tryz.results43,go_sem,t0,t1,t2,t3]) rfl ⟨rfl,c2.trans (zb.mono (by omega))⟩
def mi:List Ent→Int
 | []=>1
 | e::l=>meet (co e.x e.y) (mi l)
theorem fZ (l:List Ent):Tri (mi l):=by
 induction l with
 | nil=>exact .inr (.inl rfl)
 | cons e l ih=>exact(bs _ _).meet ih
theorem iV (l:List Ent) (e:Ent):mi (l ++ [e])=meet (co e.x e.y) (mi l):=by
 induction l with
 | nil=>rfl
 | cons x l ih=>
   show meet (co x.x x.y) (mi (l ++ [e]))=meet _ (meet _ _)
   rw[ih,←j9 (bs _ _) (bs _ _) (fZ _),re (bs x.x x.y) (bs e.x e.y),j9 (bs _ _) (bs _ _) (fZ _)]
def kv (kn:Bool):Int:=if kn then 1 else 2
theorem uR (kn:Bool):Tri (kv kn):=by
 cases kn
 ·exact .inr (.inr rfl)
 ·exact .inr (.inl rfl)
theorem uN {kn:Bool} {S E:Int} (hS:Tri S) (hE:Tri E):meet (kv kn) (meet (meet 2 S) E)=meet (kv false) (meet S E):=by
 cases kn<;>rcases hS with rfl | rfl | rfl<;>rcases hE with rfl | rfl | rfl<;>simp[meet,kv]
theorem uM {K P S E:Int} (hK:Tri K) (hP:Tri P) (hS:Tri S) (hE:Tri E):meet K (meet (meet P S) E)=meet K (meet S (meet P E)):=by
 rcases hK with rfl | rfl | rfl<;>rcases hP with rfl | rfl | rfl<;>rcases hS with rfl | rfl | rfl<;>rcases hE with rfl | rfl | rfl<;>simp[meet]
theorem vZ {K S E:Int} (hS:Tri S):meet K (meet (meet 1 S) E)=meet K (meet S E):=by rw[gc hS]
theorem uL (K S E:Int):meet K (meet (meet 0 S) E)=0:=by rw[gx,gx,meet_zero']
def eO (x:Int):Value:=if x=2 then H #[B A 0,B A 0,C ⟨#[]⟩,D none 0 0] else H #[B A 1,B A x,C ⟨#[]⟩,D none 0 0]
theorem nk (k n:Int) (s:ByteArray) (a:Option Addr) (l c:Nat) (k' n':Int) (s':ByteArray) (a':Option Addr) (l' c':Nat) (L L':List T) (w:World) (hL:am w L a l) (hL':am w L' a' l') (hc:l≤c) (hc':l'≤c') (hs:s.size≤9223372036854775807) (hs':s'.size≤9223372036854775807) (hw:wtL L+2≤1099511627776) :
 Calls Tryz.prog 41 #[H #[B A k,B A n,C s,D a l c],H #[B A k',B A n',C s',D a' l' c']] w fun e w'=>e=I (eO (aU (.node k n s L) (.node k' n' s' L')))∧Below w.heap.size w w':=by
 obtain⟨R,hR⟩:∃R,R=aU (.node k n s L) (.node k' n' s' L'):=⟨_,rfl⟩
 rw[←hR]
 have HR:=aa hR
 have cT:Hid (∀W,Calls Tryz.prog 50 #[.bool true] W fun e w'=>e=I (H #[B A 1,B A 1,C ⟨#[]⟩,D none 0 0])∧Below W.heap.size W w'):=fun W=>iQ true W
 have cF:Hid (∀W,Calls Tryz.prog 50 #[.bool false] W fun e w'=>e=I (H #[B A 1,B A 0,C ⟨#[]⟩,D none 0 0])∧Below W.heap.size W w'):=fun W=>iQ false W
 have HL:=aa hL
 have HL':=aa hL'
 clear hR hL hL'
 go_enter Tryz.func41,Tryz.ntmps41
 go_wp2_with fail
 have e0:(((((w.alloc (F #[B A k,B A n,C s,D a l c] 30)).alloc (F #[B A k',B A n',C s',D a' l' c'] 30)).alloc (F #[B A 0,B A 0,C ⟨#[]⟩,D none 0 0] 30)).alloc (F #[B A k,B A n,C s,D a l c] 30)).alloc (F #[B A k',B A n',C s',D a' l' c'] 30)).heap[w.heap.size+1+1]? = some (F #[B A 0,B A 0,C ⟨#[]⟩,D none 0 0] 30):=by
  rw[M _ _ _ (by simp),M _ _ _ (by simp)]
  exact cg w _ _ _
 have e1:(((((w.alloc (F #[B A k,B A n,C s,D a l c] 30)).alloc (F #[B A k',B A n',C s',D a' l' c'] 30)).alloc (F #[B A 0,B A 0,C ⟨#[]⟩,D none 0 0] 30)).alloc (F #[B A k,B A n,C s,D a l c] 30)).alloc (F #[B A k',B A n',C s',D a' l' c'] 30)).heap[w.heap.size+1+1+1]? = some (F #[B A k,B A n,C s,D a l c] 30):=by
  rw[M _ _ _ (by simp)]
  have:=ae (((w.alloc (F #[B A k,B A n,C s,D a l c] 30)).alloc (F #[B A k',B A n',C s',D a' l' c'] 30)).alloc (F #[B A 0,B A 0,C ⟨#[]⟩,D none 0 0] 30)) (F #[B A k,B A n,C s,D a l c] 30)
  rw[show(((w.alloc (F #[B A k,B A n,C s,D a l c] 30)).alloc (F #[B A k',B A n',C s',D a' l' c'] 30)).alloc (F #[B A 0,B A 0,C ⟨#[]⟩,D none 0 0] 30)).heap.size=w.heap.size+1+1+1 from by simp] at this
  exact this
 have e2:(((((w.alloc (F #[B A k,B A n,C s,D a l c] 30)).alloc (F #[B A k',B A n',C s',D a' l' c'] 30)).alloc (F #[B A 0,B A 0,C ⟨#[]⟩,D none 0 0] 30)).alloc (F #[B A k,B A n,C s,D a l c] 30)).alloc (F #[B A k',B A n',C s',D a' l' c'] 30)).heap[w.heap.size+1+1+1+1]? = some (F #[B A k',B A n',C s',D a' l' c'] 30):=by
  have:=ae ((((w.alloc (F #[B A k,B A n,C s,D a l c] 30)).alloc (F #[B A k',B A n',C s',D a' l' c'] 30)).alloc (F #[B A 0,B A 0,C ⟨#[]⟩,D none 0 0] 30)).alloc (F #[B A k,B A n,C s,D a l c] 30)) (F #[B A k',B A n',C s',D a' l' c'] 30)
  rw[show((((w.alloc (F #[B A k,B A n,C s,D a l c] 30)).alloc (F #[B A k',B A n',C s',D a' l' c'] 30)).alloc (F #[B A 0,B A 0,C ⟨#[]⟩,D none 0 0] 30)).alloc (F #[B A k,B A n,C s,D a l c] 30)).heap.size=w.heap.size+1+1+1+1 from by simp] at this
  exact this
 have b0:Below w.heap.size w (((((w.alloc (F #[B A k,B A n,C s,D a l c] 30)).alloc (F #[B A k',B A n',C s',D a' l' c'] 30)).alloc (F #[B A 0,B A 0,C ⟨#[]⟩,D none 0 0] 30)).alloc (F #[B A k,B A n,C s,D a l c] 30)).alloc (F #[B A k',B A n',C s',D a' l' c'] 30)):=(((((J _ _).alloc (G _) _).alloc (by simp) _).alloc (by simp;omega) _).alloc (by simp;omega) _).alloc (by simp;omega) _
 have s0:(((((w.alloc (F #[B A k,B A n,C s,D a l c] 30)).alloc (F #[B A k',B A n',C s',D a' l' c'] 30)).alloc (F #[B A 0,B A 0,C ⟨#[]⟩,D none 0 0] 30)).alloc (F #[B A k,B A n,C s,D a l c] 30)).alloc (F #[B A k',B A n',C s',D a' l' c'] 30)).heap.size=w.heap.size+1+1+1+1+1:=by simp
 generalize (((((w.alloc (F #[B A k,B A n,C s,D a l c] 30)).alloc (F #[B A k',B A n',C s',D a' l' c'] 30)).alloc (F #[B A 0,B A 0,C ⟨#[]⟩,D none 0 0] 30)).alloc (F #[B A k,B A n,C s,D a l c] 30)).alloc (F #[B A k',B A n',C s',D a' l' c'] 30))=W0 at e0 e1 e2 b0 s0 ⊢
 have o1:Ent.ok W0 ⟨[.node k n s L],[.node k' n' s' L'],some ⟨w.heap.size+1+1+1,0,none⟩,1,1,some ⟨w.heap.size+1+1+1+1,0,none⟩,1,1⟩:=by
  refine⟨?_,?_,G _,G _⟩
  ·unfold am
   refine⟨_,_,rfl,rfl,by show 1≤_;decide,by omega,?_,by unfold am;rfl⟩
   unfold bY
   exact⟨hs,a,l,c,ac e1 0,ac e1 1,ac e1 2,ac e1 3,hc,HL.out.below b0 _ _ _⟩
  ·unfold am
   refine⟨_,_,rfl,rfl,by show 1≤_;decide,by omega,?_,by unfold am;rfl⟩
   unfold bY
   exact⟨hs',a',l',c',ac e2 0,ac e2 1,ac e2 2,ac e2 3,hc',HL'.out.below b0 _ _ _⟩
 have O1:=aa o1
 have E0:=aa e0
 have S0:=aa s0
 clear e0 e1 e2 o1 s0 HL HL' hs hs' hc hc'
 go_loopg [5,6] (wtL L+2) (fun g s5 s6 wr=>∃(kn:Bool) (es:List Ent) (r cap:Nat),s5 = .bool kn∧s6=D (some ⟨r,0,none⟩) es.length cap∧bM wr W0.heap.size r cap es∧Below W0.heap.size W0 wr∧(∀e ∈ es,e.ok W0)∧wtE es≤g∧wtE es≤1099511627776∧R=meet (kv kn) (mi es))
 case atStart=>
  refine⟨true,[⟨[.node k n s L],[.node k' n' s' L'],some ⟨w.heap.size+1+1+1,0,none⟩,1,1,some ⟨w.heap.size+1+1+1+1,0,none⟩,1,1⟩],W0.heap.size,1,rfl,by rw[S0.out];rfl,bM.mk' (G _) (ae _ _) (G _) (by unfold maxLen;decide) rfl rfl,(J _ _).alloc (G _) _,?_,?_,?_,?_⟩
  ·intro e he
   obtain rfl:=List.mem_singleton.1 he
   exact O1.out
  ·simp[wtE,wtL,wtT]
  ·simp[wtE,wtL,wtT];omega
  ·rw[HR.out]
   simp only[mi,fp,gt]
   rw[meet_one' (dk _ _),meet_one' (dk _ _)]
   exact(gc (dk _ _)).symm
 case round=>
  clear HR O1 hw
  obtain⟨kn,es,r,cap,rfl,rfl,hrow,hb,hok,hg,hwt,hR⟩:=hrel
  have HOK:=aa hok
  have HR:=aa hR
  have HROW:=aa hrow
  clear hok hR hrow
  have hbx:=(hb.block (w.heap.size+1+1) (by have:=S0.out;omega)).trans E0.out
  have cw:=af b0 hb
  rcases Classical.em (es = []) with he | he
  ·subst he
   cases kn with
   | true=>
     have hRv:R=1:=HR.out
     have HRV:=aa hRv
     clear HR HROW HOK hRv
     go_wp2_with fail
     refine(cT.out _).mono ?_
     rintro e w2 ⟨rfl,k2⟩
     have hb2:=(k2.block (w.heap.size+1+1) (by have:=hb.size;have:=S0.out;omega)).trans hbx
     have c2:=af cw k2
     clear hbx
     obtain⟨x0,x1,x2,x3⟩:=ai hb2
     obtain⟨y0,y1,y2,y3⟩:=aq hb2
     simp at x0 x1 x2 x3
     have HBX:=aa hb2
     clear hb2
     go_wp2_with fail
     have zz:=aQ HBX.out (B A 1) (B A 1) (C ⟨#[]⟩) (D none 0 0)
     have zb:=aY w2 (w.heap.size+1+1) (B A 1) (B A 1) (C ⟨#[]⟩) (D none 0 0)
     obtain⟨t0,t1,t2,t3⟩:=ai zz
     have eP:(((w2.setCell ⟨w.heap.size+1+1,0,none⟩ (B A 1)).setCell ⟨w.heap.size+1+1,1,none⟩ (B A 1)).setCell ⟨w.heap.size+1+1,2,none⟩ (C ⟨#[]⟩)).setCell ⟨w.heap.size+1+1,3,none⟩ (D none 0 0)=bC w2 (w.heap.size+1+1) (B A 1) (B A 1) (C ⟨#[]⟩) (D none 0 0):=rfl
     rw[eP]
     clear eP
     generalize bC w2 (w.heap.size+1+1) (B A 1) (B A 1) (C ⟨#[]⟩) (D none 0 0)=W9 at zz zb t0 t1 t2 t3 ⊢
     simp at t0 t1 t2 t3
     exact bodyPost_ret (v:=H #[B A 1,B A 1,C ⟨#[]⟩,D none 0 0]) (by simp[results,Tryz.results41,go_sem,t0,t1,t2,t3]) rfl ⟨by rw[HRV.out];rfl,c2.trans (zb.mono (by omega))⟩
   | false=>
     have hRv:R=2:=HR.out
     have HRV:=aa hRv
     clear HR HROW HOK hRv
     obtain⟨x0,x1,x2,x3⟩:=ai hbx
     obtain⟨y0,y1,y2,y3⟩:=aq hbx
     simp at x0 x1 x2 x3
     have HBX:=aa hbx
     clear hbx
     go_wp2_with fail
     have zz:=aQ HBX.out (B A 0) (B A 0) (C ⟨#[]⟩) (D none 0 0)
     have zb:=aY wr (w.heap.size+1+1) (B A 0) (B A 0) (C ⟨#[]⟩) (D none 0 0)
     obtain⟨t0,t1,t2,t3⟩:=ai zz
     have eP:(((wr.setCell ⟨w.heap.size+1+1,0,none⟩ (B A 0)).setCell ⟨w.heap.size+1+1,1,none⟩ (B A 0)).setCell ⟨w.heap.size+1+1,2,none⟩ (C ⟨#[]⟩)).setCell ⟨w.heap.size+1+1,3,none⟩ (D none 0 0)=bC wr (w.heap.size+1+1) (B A 0) (B A 0) (C ⟨#[]⟩) (D none 0 0):=rfl
     rw[eP]
     clear eP
     generalize bC wr (w.heap.size+1+1) (B A 0) (B A 0) (C ⟨#[]⟩) (D none 0 0)=W9 at zz zb t0 t1 t2 t3 ⊢
     simp at t0 t1 t2 t3
     exact bodyPost_ret (v:=H #[B A 0,B A 0,C ⟨#[]⟩,D none 0 0]) (by simp[results,Tryz.results41,go_sem,t0,t1,t2,t3]) rfl ⟨by rw[HRV.out];rfl,cw.trans (zb.mono (by omega))⟩
  ·obtain⟨es0,e,rfl⟩:=pY es he
   clear he
   obtain⟨q0,q1,f0,f1⟩:=HROW.out.last
   have hle:es0.length+1≤wtE (es0 ++ [e]):=by have:=gV (es0 ++ [e]);simpa using this
   have hlen:(es0 ++ [e]).length=es0.length+1:=by simp
   rw[hlen]
   have HE:Hid (e.ok W0):=HOK.out e (by simp)
   obtain⟨x,y,a2,la,ca,b2,lb,cb⟩:=e
   obtain⟨n0,hn0⟩:∃n0,es0.length=n0:=⟨_,rfl⟩
   rw[hn0] at q0 q1 f0 f1 hle ⊢
   have HN:=aa hn0
   have ⟨hla,hla2⟩:=HE.out.1.length
   have ⟨hlb,hlb2⟩:=HE.out.2.1.length
   have hcap:n0+1≤cap∧cap≤9223372036854775807:=by
    obtain⟨_,_,_,_,h1,h2,_⟩:=HROW.out.open'
    rw[List.length_append,HN.out] at h1
    have hm:maxLen≤9223372036854775807:=by unfold maxLen;decide
    exact⟨h1,by omega⟩
   have ⟨hcap1,hcap2⟩:=hcap
   have hr0:r<wr.heap.size:=by obtain⟨_,_,h,_⟩:=HROW.out.open';exact h
   have HLA:=aa hla
   have HLB:=aa hlb
   clear hlen hn0 hcap hla hlb
   change la≤_ at hla2
   change lb≤_ at hlb2
   by_cases hll:la=lb
   ·subst hll
    have zr0:bM (wr.alloc (F #[D a2 la ca,D b2 la cb] 109)) W0.heap.size r cap es0:=HROW.out.pop.kept ((J _ _).alloc (G _) _)
    have z1:(wr.alloc (F #[D a2 la ca,D b2 la cb] 109)).cell? ⟨wr.heap.size,1,none⟩=some (D b2 la cb):=ac (ae wr _) 1
    have zs:wr.heap.size<(wr.alloc (F #[D a2 la ca,D b2 la cb] 109)).heap.size:=by simp
    have zb:Below W0.heap.size W0 (wr.alloc (F #[D a2 la ca,D b2 la cb] 109)):=hb.alloc hb.size _
    have ZR:=aa zr0
    have Z1:=aa z1
    have hxy:wtE es0+wtL x≤wtE (es0 ++ [⟨x,y,a2,la,ca,b2,la,cb⟩]):=by rw[eW];exact G _
    have HXY:=aa hxy
    clear zr0 z1 HROW hxy hbx
    go_wp2_with fail
    clear q0 q1 f0 f1
    generalize wr.alloc (F #[D a2 la ca,D b2 la cb] 109)=W6 at zb zs ZR Z1 ⊢
    obtain⟨tp,htp⟩:∃tp,wr.heap.size=tp:=⟨_,rfl⟩
    rw[htp] at zs Z1 ⊢
    have HTP:=aa htp
    clear htp
    go_loopg [5,6,42] la (fun g s5 s6 s42 wq=>∃(kn':Bool) (es':List Ent) (r' cap' i:Nat),s42=B A i∧i≤la∧la-i≤g∧s5 = .bool kn'∧s6=D (some ⟨r',0,none⟩) es'.length cap'∧bM wq W0.heap.size r' cap' es'∧Below W0.heap.size W0 wq∧tp<wq.heap.size∧r'≠tp∧wq.cell? ⟨tp,1,none⟩=some (D b2 la cb)∧(∀e ∈ es',e.ok W0)∧wtE es'+wtL (x.drop i)≤wtE (es0 ++ [⟨x,y,a2,la,ca,b2,la,cb⟩])∧R=meet (kv kn') (meet (co (x.drop i) (y.drop i)) (mi es')))
    case atStart=>
     refine⟨kn,es0,r,cap,0,rfl,Nat.zero_le _,by omega,rfl,by rw[HN.out],ZR.out,zb,zs,by have:=HTP.out;omega,Z1.out,fun e he=>HOK.out e (by simp[he]),by simpa using HXY.out,?_⟩
     rw[HR.out,iV]
     rfl
    case round=>
     clear HOK HR ZR Z1 zb zs HXY hb cw hcap1 hcap2 hr0 hle
     obtain⟨kn',es',r',cap',i,rfl,hi,hgi,rfl,rfl,hrow,hbq,htq,hrt,hcq,hokq,hwq,hRq⟩:=hrel
     have HROW:=aa hrow
     have HOK:=aa hokq
     have HR:=aa hRq
     have hsq:=hbq.size
     clear hrow hokq hRq
     by_cases hlt:i<la
     ·obtain⟨bt,ot,t,rfl,hbt,hdx,hT⟩:=HE.out.1.get hlt
      obtain⟨bu,ou,u,rfl,hbu,hdy,hU⟩:=HE.out.2.1.get hlt
      obtain⟨kt,nt,st,Lt⟩:=t
      obtain⟨ku,nu,su,Lu⟩:=u
      unfold bY at hT hU
      obtain⟨hst,at',lt,ct,p0,p1,p2,p3,hltc,hLt⟩:=hT
      obtain⟨hsu,au',lu,cu,p4,p5,p6,p7,hluc,hLu⟩:=hU
      have t0:=(hbq.cell hbt).trans p0
      have t1:=(hbq.cell hbt).trans p1
      have t2:=(hbq.cell hbt).trans p2
      have t3:=(hbq.cell hbt).trans p3
      have t4:=(hbq.cell hbu).trans p4
      have t5:=(hbq.cell hbu).trans p5
      have t6:=(hbq.cell hbu).trans p6
      have t7:=(hbq.cell hbu).trans p7
      have hbt2:bt<wr.heap.size:=by omega
      have hbu2:bu<wr.heap.size:=by omega
      have hRd:R=meet (kv kn') (meet (meet (aU (.node kt nt st Lt) (.node ku nu su Lu)) (co (x.drop (i+1)) (y.drop (i+1)))) (mi es')):=by
       have h1:=HR.out
       have h2:x.drop i = .node kt nt st Lt::x.drop (i+1):=hdx
       have h3:y.drop i = .node ku nu su Lu::y.drop (i+1):=hdy
       rw[h2,h3,fp] at h1
       exact h1
      have hwd:wtE es'+(wtL Lt+1+wtL (x.drop (i+1)))≤wtE (es0 ++ [⟨x,y,some ⟨bt,ot,none⟩,la,ca,some ⟨bu,ou,none⟩,la,cb⟩]):=by
       have h2:x.drop i = .node kt nt st Lt::x.drop (i+1):=hdx
       have h1:=hwq
       rw[h2] at h1
       simpa[wtL,wtT] using h1
      have HRd:=aa hRd
      have HLt:=aa hLt
      have HLu:=aa hLu
      have HDX:=aa hdx
      have HDY:=aa hdy
      clear p0 p1 p2 p3 p4 p5 p6 p7 hRd hLt hLu hdx hdy hst hsu HR
      go_upto_region 12 with fail
      have v0:((wr.alloc (F #[B A kt,B A nt,C st,D at' lt ct] 30)).alloc (F #[B A ku,B A nu,C su,D au' lu cu] 30)).cell? ⟨wr.heap.size,0,none⟩=some (B A kt):=(bS _ _ _ _ (by simp)).trans (ac (ae wr _) 0)
      have v1:((wr.alloc (F #[B A kt,B A nt,C st,D at' lt ct] 30)).alloc (F #[B A ku,B A nu,C su,D au' lu cu] 30)).cell? ⟨wr.heap.size,1,none⟩=some (B A nt):=(bS _ _ _ _ (by simp)).trans (ac (ae wr _) 1)
      have v2:((wr.alloc (F #[B A kt,B A nt,C st,D at' lt ct] 30)).alloc (F #[B A ku,B A nu,C su,D au' lu cu] 30)).cell? ⟨wr.heap.size,2,none⟩=some (C st):=(bS _ _ _ _ (by simp)).trans (ac (ae wr _) 2)
      have v3:((wr.alloc (F #[B A kt,B A nt,C st,D at' lt ct] 30)).alloc (F #[B A ku,B A nu,C su,D au' lu cu] 30)).cell? ⟨wr.heap.size,3,none⟩=some (D at' lt ct):=(bS _ _ _ _ (by simp)).trans (ac (ae wr _) 3)
      have v4:((wr.alloc (F #[B A kt,B A nt,C st,D at' lt ct] 30)).alloc (F #[B A ku,B A nu,C su,D au' lu cu] 30)).cell? ⟨wr.heap.size+1,0,none⟩=some (B A ku):=ac (ay wr _ _) 0
      have v5:((wr.alloc (F #[B A kt,B A nt,C st,D at' lt ct] 30)).alloc (F #[B A ku,B A nu,C su,D au' lu cu] 30)).cell? ⟨wr.heap.size+1,1,none⟩=some (B A nu):=ac (ay wr _ _) 1
      have v6:((wr.alloc (F #[B A kt,B A nt,C st,D at' lt ct] 30)).alloc (F #[B A ku,B A nu,C su,D au' lu cu] 30)).cell? ⟨wr.heap.size+1,2,none⟩=some (C su):=ac (ay wr _ _) 2
      have v7:((wr.alloc (F #[B A kt,B A nt,C st,D at' lt ct] 30)).alloc (F #[B A ku,B A nu,C su,D au' lu cu] 30)).cell? ⟨wr.heap.size+1,3,none⟩=some (D au' lu cu):=ac (ay wr _ _) 3
      have k7:Below wr.heap.size wr ((wr.alloc (F #[B A kt,B A nt,C st,D at' lt ct] 30)).alloc (F #[B A ku,B A nu,C su,D au' lu cu] 30)):=((J _ _).alloc (G _) _).alloc (by simp) _
      have s7:((wr.alloc (F #[B A kt,B A nt,C st,D at' lt ct] 30)).alloc (F #[B A ku,B A nu,C su,D au' lu cu] 30)).heap.size=wr.heap.size+1+1:=by simp
      generalize ((wr.alloc (F #[B A kt,B A nt,C st,D at' lt ct] 30)).alloc (F #[B A ku,B A nu,C su,D au' lu cu] 30))=W7 at v0 v1 v2 v3 v4 v5 v6 v7 k7 s7 ⊢
      have c7:=(k7.cell (p:=⟨tp,1,none⟩) htq).trans hcq
      have b7:Below W0.heap.size W0 W7:=hbq.trans (k7.mono hsq)
      have R7:=aa (HROW.out.kept k7)
      have S7:=aa s7
      have hx7:wr.heap.size<W7.heap.size:=by omega
      have hy7:wr.heap.size+1<W7.heap.size:=by omega
      have ht7:tp<W7.heap.size:=by omega
      clear t0 t1 t2 t3 t4 t5 t6 t7 s7 hcq HROW
      have hcase:(kt==0)=true∨((kt==0)=false∧(ku==0)=true)∨((kt==0)=false∧(ku==0)=false):=by
       cases kt==0<;>cases ku==0<;>simp
      rcases hcase with hA | hA | hA
      case' inl=>
       have hS:aU (.node kt nt st Lt) (.node ku nu su Lu)=2:=by
        have:kt=0:=by simpa using hA
        unfold aU
        simp[this]
      case' inr.inl=>
       have hS:aU (.node kt nt st Lt) (.node ku nu su Lu)=2:=by
        have:ku=0:=by simpa using hA.2
        unfold aU
        simp[this]
       have ⟨hA1,hA2⟩:=hA
       clear hA
      case inr.inr=>
       have ⟨hA1,hA2⟩:=hA
       have hk0:¬(kt=0∨ku=0):=by
        have h1:kt≠0:=by simpa using hA1
        have h2:ku≠0:=by simpa using hA2
        omega
       have HK0:=aa hk0
       clear hA hk0
       have hcase:((kt==4)=true∧(ku==4)=true)∨((kt==4)=true∧(ku==4)=false)∨(kt==4)=false:=by
        cases kt==4<;>cases ku==4<;>simp
       rcases hcase with hB | hB | hB
       case inl=>
        have ⟨hB1,hB2⟩:=hB
        have hS:aU (.node kt nt st Lt) (.node ku nu su Lu)=co Lt Lu:=by
         have h1:kt=4:=by simpa using hB1
         have h2:ku=4:=by simpa using hB2
         unfold aU
         rw[if_neg HK0.out,if_pos ⟨h1,h2⟩]
        have HS:=aa hS
        clear hB hS
        obtain⟨i0,hi0,hiz,his,hib⟩:=lR
        have HI0:=aa hi0
        have HIZ:=aa hiz
        have HIS:=aa his
        have HIB:=aa hib
        have hel:es'.length≤wtE es':=gV es'
        obtain⟨m0,hm0⟩:∃m0,es'.length=m0:=⟨_,rfl⟩
        rw[hm0] at hel ⊢
        have HM0:=aa hm0
        have hbig:(m0+1)*48≤140737488355328:=by omega
        have hbig2:m0+1≤maxLen:=by unfold maxLen;omega
        have zr7:(W7.alloc (F #[D at' lt ct,D au' lu cu] 109)).ownsRow W0.heap.size 109 2 (D (some ⟨r',0,none⟩) m0 cap') m0 (jP es'):=by
         have:=bM.kept R7.out ((J _ _).alloc (G _) (F #[D at' lt ct,D au' lu cu] 109))
         unfold bM at this
         rw[HM0.out] at this
         exact this
        have ZR7:=aa zr7
        have hb7:W0.heap.size≤W7.heap.size+1:=by omega
        clear hi0 hiz his hib zr7 hm0
        go_wp2_with (at_builtin;refine wpList_append_lies _ rfl _ _ 110 rfl W0.heap.size 109 i0 _ 2 48 Tryz.underlying110 HI0.out HIZ.out HIS.out HIB.out rfl (by decide) _ m0 _ rfl ZR7.out ⟨W7.heap.size,0,none⟩ 1 1 [D at' lt ct,D au' lu cu] rfl rfl (World.news_of_block (cs:=#[D at' lt ct,D au' lu cu]) (ae W7 _)) (by simp[Value.oneCell']) (by decide) hbig2 hbig (by simp;omega) (W7.heap.size+1) (by simp) ?_)
        intro gg cap2 w8 hown hgrow hat hglt
        go_wp2_with fail
        have hrw:bM w8 W0.heap.size gg cap2 (es' ++ [⟨Lt,Lu,at',lt,ct,au',lu,cu⟩]):=by
         unfold bM
         rw[e9]
         simp only[List.length_append,List.length_singleton,HM0.out]
         exact hown
        have hrB:W0.heap.size≤r':=by obtain⟨_,h,_⟩:=R7.out.open';exact h
        have hb8:Below W0.heap.size W0 w8:=(b7.alloc b7.size _).grown hgrow (by simp;omega) (fun k hk=>by simp[Value.ownBlock] at hk;omega)
        have hs8:=hgrow.size
        simp at hs8
        have hc8:w8.cell? ⟨tp,1,none⟩=some (D (some ⟨bu,ou,none⟩) la cb):=by
         rw[hgrow.cell_far ⟨tp,1,none⟩ (by simp;omega) (by simp[Value.ownBlock];omega),bS _ _ _ _ ht7]
         exact c7
        go_roundg (la-(i+1))
        case measure=>omega
        case rel=>
         refine⟨kn',es' ++ [⟨Lt,Lu,at',lt,ct,au',lu,cu⟩],gg,cap2,i+1,by go_num,by omega,by omega,rfl,by simp[HM0.out],hrw,hb8,by omega,?_,hc8,?_,?_,?_⟩
         ·rcases hat with h | h
          ·simp[Value.ownBlock] at h;omega
          ·omega
         ·intro e he
          rcases List.mem_append.1 he with he | he
          ·exact HOK.out e he
          ·obtain rfl:=List.mem_singleton.1 he
           exact⟨HLt.out,HLu.out,hltc,hluc⟩
         ·rw[eW]
          show wtE es'+wtL Lt+wtL (x.drop (i+1))≤_
          omega
         ·rw[HRd.out,HS.out,iV]
          exact uM (uR _) (bs _ _) (bs _ _) (fZ _)
       case' inr.inl=>
        have ⟨hB1,hB2⟩:=hB
        have h4:¬(kt=4∧ku=4):=by
         have h2:ku≠4:=by simpa using hB2
         omega
        clear hB
       case' inr.inr=>
        have h4:¬(kt=4∧ku=4):=by
         have h2:kt≠4:=by simpa using hB
         omega
       all_goals
        have hS:aU (.node kt nt st Lt) (.node ku nu su Lu)=if cY (.node kt nt st Lt) (.node ku nu su Lu)=0 then 1 else 0:=by
         unfold aU
         rw[if_neg HK0.out,if_neg h4]
        obtain⟨z,hz⟩:∃z,cY (.node kt nt st Lt) (.node ku nu su Lu)=z:=⟨_,rfl⟩
        have cO:Hid (Calls Tryz.prog 80 #[H #[B A kt,B A nt,C st,D at' lt ct],H #[B A ku,B A nu,C su,D au' lu cu]] W7 fun e w'=>e=I (B A z)∧Below W7.heap.size W7 w'):=by
         rw[←hz]
         exact lK kt nt st at' lt ct ku nu su au' lu cu Lt Lu W7 (HLt.out.below b7 _ _ _) (HLu.out.below b7 _ _ _) hltc hluc (by omega)
        rw[hz] at hS
        have HS:=aa hS
        have H4:=aa h4
        clear hS h4 hz
        go_wp2_with fail
        refine cO.out.mono ?_
        rintro e w8 ⟨rfl,k8⟩
        by_cases hz0:z=0
        ·have hz1:(z != 0)=false:=by simp[hz0]
         have HZ:=aa hz0
         have c8:=(k8.cell (p:=⟨tp,1,none⟩) ht7).trans c7
         have b8:Below W0.heap.size W0 w8:=b7.trans (k8.mono (by omega))
         have s8:=k8.size
         clear hz0
         go_wp2_with fail
         go_roundg (la-(i+1))
         case measure=>omega
         case rel=>
          refine⟨kn',es',r',cap',i+1,by go_num,by omega,by omega,rfl,rfl,R7.out.kept k8,b8,by omega,hrt,c8,HOK.out,by omega,?_⟩
          rw[HRd.out,HS.out,if_pos HZ.out]
          exact vZ (bs _ _)
        ·have hz1:(z != 0)=true:=by simp[hz0]
         have hRv:R=0:=by
          rw[HRd.out,HS.out,if_neg hz0]
          exact uL _ _ _
         have HRV:=aa hRv
         clear hRv hz0
         go_wp2_with fail
         refine(cF.out _).mono ?_
         rintro e w2 ⟨rfl,k2⟩
         have hb2:w2.heap[w.heap.size+1+1]? = some (F #[B A 0,B A 0,C ⟨#[]⟩,D none 0 0] 30):=by
          have:=S0.out
          have:=k8.size
          rw[k2.block _ (by omega),k8.block _ (by omega),b7.block _ (by omega)]
          exact E0.out
         have c2:=af (af (af b0 b7) k8) k2
         clear R7 HRd HOK
         obtain⟨x0,x1,x2,x3⟩:=ai hb2
         obtain⟨y0,y1,y2,y3⟩:=aq hb2
         simp at x0 x1 x2 x3
         have HBX:=aa hb2
         clear hb2
         go_wp2_with fail
         have zz:=aQ HBX.out (B A 1) (B A 0) (C ⟨#[]⟩) (D none 0 0)
         have zb:=aY w2 (w.heap.size+1+1) (B A 1) (B A 0) (C ⟨#[]⟩) (D none 0 0)
         obtain⟨t0,t1,t2,t3⟩:=ai zz
         have eP:(((w2.setCell ⟨w.heap.size+1+1,0,none⟩ (B A 1)).setCell ⟨w.heap.size+1+1,1,none⟩ (B A 0)).setCell ⟨w.heap.size+1+1,2,none⟩ (C ⟨#[]⟩)).setCell ⟨w.heap.size+1+1,3,none⟩ (D none 0 0)=bC w2 (w.heap.size+1+1) (B A 1) (B A 0) (C ⟨#[]⟩) (D none 0 0):=rfl
         rw[eP]
         clear eP
         generalize bC w2 (w.heap.size+1+1) (B A 1) (B A 0) (C ⟨#[]⟩) (D none 0 0)=W9 at zz zb t0 t1 t2 t3 ⊢
         simp at t0 t1 t2 t3
         exact bodyPost_ret (v:=H #[B A 1,B A 0,C ⟨#[]⟩,D none 0 0]) (by simp[results,Tryz.results41,go_sem,t0,t1,t2,t3]) rfl ⟨by rw[HRV.out];rfl,c2.trans (zb.mono (by omega))⟩
      all_goals
       have HS:=aa hS
       clear hS
       go_wp2_with fail
       go_roundg (la-(i+1))
       case measure=>omega
       case rel=>
        refine⟨false,es',r',cap',i+1,by go_num,by omega,by omega,rfl,rfl,R7.out,b7,by omega,hrt,c7,HOK.out,by omega,?_⟩
        rw[HRd.out,HS.out]
        exact uN (bs _ _) (fZ _)
     ·have hil:i=la:=by omega
      have HIL:=aa hil
      clear hil
      go_wp2_with fail
      have hxd:x.drop i = []:=by
       have h1:la=x.length:=HLA.out
       rw[HIL.out,h1]
       exact List.drop_length
      have hyd:y.drop i = []:=by
       have h1:la=y.length:=HLB.out
       rw[HIL.out,h1]
       exact List.drop_length
      rw[hxd] at hwq
      simp only[wtL] at hwq
      go_roundg (wtE es')
      case measure=>omega
      case rel=>
       refine⟨kn',es',r',cap',rfl,rfl,HROW.out,hbq,HOK.out,G _,by omega,?_⟩
       rw[HR.out,hxd,hyd,gt,gc (fZ _)]
   ·have hll':((la:Int) != (lb:Int))=true:=by simp;omega
    have hRv:R=0:=by
     rw[HR.out,iV,fo (fun e=>hll (by have h1:=HLA.out;have h2:=HLB.out;exact h1.trans (e.trans h2.symm))),gx,meet_zero']
    have HRV:=aa hRv
    clear HR HROW HOK HE hRv hll HLA HLB
    go_wp2_with fail
    refine(cF.out _).mono ?_
    rintro e w2 ⟨rfl,k2⟩
    have hb2:w2.heap[w.heap.size+1+1]? = some (F #[B A 0,B A 0,C ⟨#[]⟩,D none 0 0] 30):=by
     rw[k2.block _ (by simp;have:=hb.size;have:=S0.out;omega),M _ _ _ (by have:=hb.size;have:=S0.out;omega)]
     exact hbx
    have c2:=af (cw.alloc cw.size _) k2
    clear hbx
    obtain⟨x0,x1,x2,x3⟩:=ai hb2
    obtain⟨y0,y1,y2,y3⟩:=aq hb2
    simp at x0 x1 x2 x3
    have HBX:=aa hb2
    clear hb2
    go_wp2_with fail
    have zz:=aQ HBX.out (B A 1) (B A 0) (C ⟨#[]⟩) (D none 0 0)
    have zb:=aY w2 (w.heap.size+1+1) (B A 1) (B A 0) (C ⟨#[]⟩) (D none 0 0)
    obtain⟨t0,t1,t2,t3⟩:=ai zz
    have eP:(((w2.setCell ⟨w.heap.size+1+1,0,none⟩ (B A 1)).setCell ⟨w.heap.size+1+1,1,none⟩ (B A 0)).setCell ⟨w.heap.size+1+1,2,none⟩ (C ⟨#[]⟩)).setCell ⟨w.heap.size+1+1,3,none⟩ (D none 0 0)=bC w2 (w.heap.size+1+1) (B A 1) (B A 0) (C ⟨#[]⟩) (D none 0 0):=rfl
    rw[eP]
    clear eP
    generalize bC w2 (w.heap.size+1+1) (B A 1) (B A 0) (C ⟨#[]⟩) (D none 0 0)=W9 at zz zb t0 t1 t2 t3 ⊢
    simp at t0 t1 t2 t3
    exact bodyPost_ret (v:=H #[B A 1,B A 0,C ⟨#[]⟩,D none 0 0]) (by simp[results,Tryz.results41,go_sem,t0,t1,t2,t3]) rfl ⟨by rw[HRV.out];rfl,c2.trans (zb.mono (by omega))⟩
end Go.Proofs.YtijjpoohhgapoaaGreatDoor
