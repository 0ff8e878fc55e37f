import Derived.Test.YtijjpoohhgapoaaGreatDoorVQAO
import Derived.Test.YtijjpoohhgapoaaGreatDoorVQAJ
namespace Go.Proofs.YtijjpoohhgapoaaGreatDoor
open Go.RowKit
set_option linter.unusedVariables false
set_option maxHeartbeats 4000000
set_option maxRecDepth 100000
open IntKind renaming i64 → A
open Value renaming int → B, string → C, slice → D, agg → G, pointer → J
open Obj renaming cells → E
open Ending renaming returned → F
open Nat renaming le_refl → H
open RowKit.Below renaming refl → I
theorem dz (x:Int) (w:World):Calls Tryz.prog 24 #[B A x] w fun e w'=>e=F (eO x)∧Below w.heap.size w w':=by
 by_cases hx:x=2
 ·subst hx
  go_enter Tryz.func24,Tryz.ntmps24
  go_wp2_with fail
  exact bodyPost_ret (v:=G #[B A 0,B A 0,C ⟨#[]⟩,D none 0 0]) (by simp[results,Tryz.results24,go_sem]) rfl ⟨rfl,(I _ _).alloc (H _) _⟩
 ·have hx':(x==2)=false:=by simpa using hx
  have e:eO x=G #[B A 1,B A x,C ⟨#[]⟩,D none 0 0]:=by unfold eO;rw[if_neg hx]
  rw[e]
  clear e hx
  go_enter Tryz.func24,Tryz.ntmps24
  go_wp2_with fail
  exact bodyPost_ret (v:=G #[B A 1,B A x,C ⟨#[]⟩,D none 0 0]) (by simp[results,Tryz.results24,go_sem]) rfl ⟨rfl,(I _ _).alloc (H _) _⟩
theorem nW (k n:Int) (s:ByteArray) (a:Option Addr) (l c:Nat) (k' n':Int) (s':ByteArray) (a':Option Addr) (l' c':Nat) (w:World) (h:k≠k'∨(k≠2∧k≠3)) :
 Calls Tryz.prog 34 #[G #[B A k,B A n,C s,D a l c],G #[B A k',B A n',C s',D a' l' c']] w fun e w'=>e=F (G #[B A 0,B A 0,C ⟨#[]⟩,D none 0 0])∧Below w.heap.size w w':=by
 have cT:Hid (∀W,Calls Tryz.prog 24 #[B A 2] W fun e w'=>e=F (G #[B A 0,B A 0,C ⟨#[]⟩,D none 0 0])∧Below W.heap.size W w'):=fun W=>dz 2 W
 go_enter Tryz.func34,Tryz.ntmps34
 go_upto_region 1 with fail
 go_cut [19] (fun s19 wx=>s19 = .bool true∧wx=(((w.alloc (E #[B A k,B A n,C s,D a l c] 30)).alloc (E #[B A k',B A n',C s',D a' l' c'] 30)).alloc (E #[B A 0,B A 0,C ⟨#[]⟩,D none 0 0] 30)))
 case first=>
  by_cases e1:k=k'
  ·subst e1
   have h2:(k != 2)=true:=by simp;omega
   have h3:(k != 3)=true:=by simp;omega
   clear h
   go_wp2_with fail
   go_meet
   exact⟨rfl,rfl⟩
  ·have h2:(k != k')=true:=by simp[e1]
   clear h
   go_wp2_with fail
   go_meet
   exact⟨rfl,rfl⟩
 case rest=>
  obtain⟨rfl,rfl⟩:=hcut
  have b0:Below w.heap.size w (((w.alloc (E #[B A k,B A n,C s,D a l c] 30)).alloc (E #[B A k',B A n',C s',D a' l' c'] 30)).alloc (E #[B A 0,B A 0,C ⟨#[]⟩,D none 0 0] 30)):=(((I _ _).alloc (H _) _).alloc (by simp) _).alloc (by simp;omega) _
  have hbox:=cg w (E #[B A k,B A n,C s,D a l c] 30) (E #[B A k',B A n',C s',D a' l' c'] 30) (E #[B A 0,B A 0,C ⟨#[]⟩,D none 0 0] 30)
  have hsz:(((w.alloc (E #[B A k,B A n,C s,D a l c] 30)).alloc (E #[B A k',B A n',C s',D a' l' c'] 30)).alloc (E #[B A 0,B A 0,C ⟨#[]⟩,D none 0 0] 30)).heap.size=w.heap.size+1+1+1:=by simp
  go_wp2_with fail
  refine(cT.out _).mono ?_
  rintro e w2 ⟨rfl,k2⟩
  have c2:=af b0 k2
  have hb2:=(k2.block (w.heap.size+1+1) (by omega)).trans hbox
  clear hbox hsz
  obtain⟨x0,x1,x2,x3⟩:=ai hb2
  obtain⟨y0,y1,y2,y3⟩:=aq hb2
  simp at x0 x1 x2 x3
  have HBX:=aa hb2
  clear hb2
  go_wp2_with fail
  have zz:=aQ HBX.out (B A 0) (B A 0) (C ⟨#[]⟩) (D none 0 0)
  have zb:=aY w2 (w.heap.size+1+1) (B A 0) (B A 0) (C ⟨#[]⟩) (D none 0 0)
  obtain⟨t0,t1,t2,t3⟩:=ai zz
  have eP:(((w2.setCell ⟨w.heap.size+1+1,0,none⟩ (B A 0)).setCell ⟨w.heap.size+1+1,1,none⟩ (B A 0)).setCell ⟨w.heap.size+1+1,2,none⟩ (C ⟨#[]⟩)).setCell ⟨w.heap.size+1+1,3,none⟩ (D none 0 0)=bC w2 (w.heap.size+1+1) (B A 0) (B A 0) (C ⟨#[]⟩) (D none 0 0):=rfl
  rw[eP]
  clear eP
  generalize bC w2 (w.heap.size+1+1) (B A 0) (B A 0) (C ⟨#[]⟩) (D none 0 0)=W9 at zz zb t0 t1 t2 t3 ⊢
  simp at t0 t1 t2 t3
  exact bodyPost_ret (v:=G #[B A 0,B A 0,C ⟨#[]⟩,D none 0 0]) (by simp[results,Tryz.results34,go_sem,t0,t1,t2,t3]) rfl ⟨rfl,c2.trans (zb.mono (by omega))⟩
theorem pi (k n:Int) (s:ByteArray) (a:Option Addr) (l c:Nat) (n':Int) (s':ByteArray) (a':Option Addr) (l' c':Nat) (z:Int) (w:World) (h:k=2∨k=3)
 (hO:∀W,Below w.heap.size w W→Calls Tryz.prog 29 #[G #[B A k,B A n,C s,D a l c],G #[B A k,B A n',C s',D a' l' c']] W fun e w'=>e=F (B A z)∧Below W.heap.size W w') :
 Calls Tryz.prog 34 #[G #[B A k,B A n,C s,D a l c],G #[B A k,B A n',C s',D a' l' c']] w fun e w'=>e=F (G #[B A 1,B A (if z<0 then 1 else 0),C ⟨#[]⟩,D none 0 0])∧Below w.heap.size w w':=by
 have HO:=aa hO
 obtain⟨y,hy⟩:∃y:Int,y=(if z<0 then 1 else 0):=⟨_,rfl⟩
 rw[←hy]
 have HY:=aa hy
 have cT:Hid (∀W,Calls Tryz.prog 24 #[B A 1] W fun e w'=>e=F (G #[B A 1,B A 1,C ⟨#[]⟩,D none 0 0])∧Below W.heap.size W w'):=fun W=>dz 1 W
 have cF:Hid (∀W,Calls Tryz.prog 24 #[B A 0] W fun e w'=>e=F (G #[B A 1,B A 0,C ⟨#[]⟩,D none 0 0])∧Below W.heap.size W w'):=fun W=>dz 0 W
 clear hO hy
 go_enter Tryz.func34,Tryz.ntmps34
 go_upto_region 1 with fail
 go_cut [19] (fun s19 wx=>s19 = .bool false∧wx=(((w.alloc (E #[B A k,B A n,C s,D a l c] 30)).alloc (E #[B A k,B A n',C s',D a' l' c'] 30)).alloc (E #[B A 0,B A 0,C ⟨#[]⟩,D none 0 0] 30)))
 case first=>
  rcases h with rfl | rfl
  ·go_wp2_with fail
   go_meet
   exact⟨rfl,rfl⟩
  ·go_wp2_with fail
   go_meet
   exact⟨rfl,rfl⟩
 case rest=>
  obtain⟨rfl,rfl⟩:=hcut
  have b0:Below w.heap.size w (((w.alloc (E #[B A k,B A n,C s,D a l c] 30)).alloc (E #[B A k,B A n',C s',D a' l' c'] 30)).alloc (E #[B A 0,B A 0,C ⟨#[]⟩,D none 0 0] 30)):=(((I _ _).alloc (H _) _).alloc (by simp) _).alloc (by simp;omega) _
  have hbox:=cg w (E #[B A k,B A n,C s,D a l c] 30) (E #[B A k,B A n',C s',D a' l' c'] 30) (E #[B A 0,B A 0,C ⟨#[]⟩,D none 0 0] 30)
  have hsz:(((w.alloc (E #[B A k,B A n,C s,D a l c] 30)).alloc (E #[B A k,B A n',C s',D a' l' c'] 30)).alloc (E #[B A 0,B A 0,C ⟨#[]⟩,D none 0 0] 30)).heap.size=w.heap.size+1+1+1:=by simp
  go_wp2_with fail
  refine(HO.out _ b0).mono ?_
  rintro e w1 ⟨rfl,k1⟩
  have c1:=af b0 k1
  have hb1:=(k1.block (w.heap.size+1+1) (by omega)).trans hbox
  have hs1:=k1.size
  by_cases hz:z<0
  ·have hy1:y=1:=by rw[HY.out,if_pos hz]
   have HY1:=aa hy1
   clear hy1
   go_wp2_with fail
   refine(cT.out _).mono ?_
   rintro e w2 ⟨rfl,k2⟩
   have c2:=af c1 k2
   have hb2:=(k2.block (w.heap.size+1+1) (by omega)).trans hb1
   clear hb1 hbox hsz
   obtain⟨x0,x1,x2,x3⟩:=ai hb2
   obtain⟨y0,y1,y2,y3⟩:=aq hb2
   simp at x0 x1 x2 x3
   have HBX:=aa hb2
   clear hb2
   go_wp2_with fail
   have zz:=aQ HBX.out (B A 1) (B A 1) (C ⟨#[]⟩) (D none 0 0)
   have zb:=aY w2 (w.heap.size+1+1) (B A 1) (B A 1) (C ⟨#[]⟩) (D none 0 0)
   obtain⟨t0,t1,t2,t3⟩:=ai zz
   have eP:(((w2.setCell ⟨w.heap.size+1+1,0,none⟩ (B A 1)).setCell ⟨w.heap.size+1+1,1,none⟩ (B A 1)).setCell ⟨w.heap.size+1+1,2,none⟩ (C ⟨#[]⟩)).setCell ⟨w.heap.size+1+1,3,none⟩ (D none 0 0)=bC w2 (w.heap.size+1+1) (B A 1) (B A 1) (C ⟨#[]⟩) (D none 0 0):=rfl
   rw[eP]
   clear eP
   generalize bC w2 (w.heap.size+1+1) (B A 1) (B A 1) (C ⟨#[]⟩) (D none 0 0)=W9 at zz zb t0 t1 t2 t3 ⊢
   simp at t0 t1 t2 t3
   exact bodyPost_ret (v:=G #[B A 1,B A 1,C ⟨#[]⟩,D none 0 0]) (by simp[results,Tryz.results34,go_sem,t0,t1,t2,t3]) rfl ⟨by rw[HY1.out],c2.trans (zb.mono (by omega))⟩
  ·have hy1:y=0:=by rw[HY.out,if_neg hz]
   have HY1:=aa hy1
   clear hy1
   go_wp2_with fail
   refine(cF.out _).mono ?_
   rintro e w2 ⟨rfl,k2⟩
   have c2:=af c1 k2
   have hb2:=(k2.block (w.heap.size+1+1) (by omega)).trans hb1
   clear hb1 hbox hsz
   obtain⟨x0,x1,x2,x3⟩:=ai hb2
   obtain⟨y0,y1,y2,y3⟩:=aq hb2
   simp at x0 x1 x2 x3
   have HBX:=aa hb2
   clear hb2
   go_wp2_with fail
   have zz:=aQ HBX.out (B A 1) (B A 0) (C ⟨#[]⟩) (D none 0 0)
   have zb:=aY w2 (w.heap.size+1+1) (B A 1) (B A 0) (C ⟨#[]⟩) (D none 0 0)
   obtain⟨t0,t1,t2,t3⟩:=ai zz
   have eP:(((w2.setCell ⟨w.heap.size+1+1,0,none⟩ (B A 1)).setCell ⟨w.heap.size+1+1,1,none⟩ (B A 0)).setCell ⟨w.heap.size+1+1,2,none⟩ (C ⟨#[]⟩)).setCell ⟨w.heap.size+1+1,3,none⟩ (D none 0 0)=bC w2 (w.heap.size+1+1) (B A 1) (B A 0) (C ⟨#[]⟩) (D none 0 0):=rfl
   rw[eP]
   clear eP
   generalize bC w2 (w.heap.size+1+1) (B A 1) (B A 0) (C ⟨#[]⟩) (D none 0 0)=W9 at zz zb t0 t1 t2 t3 ⊢
   simp at t0 t1 t2 t3
   exact bodyPost_ret (v:=G #[B A 1,B A 0,C ⟨#[]⟩,D none 0 0]) (by simp[results,Tryz.results34,go_sem,t0,t1,t2,t3]) rfl ⟨by rw[HY1.out],c2.trans (zb.mono (by omega))⟩
theorem np (k n:Int) (s:ByteArray) (a:Option Addr) (l c:Nat) (k' n':Int) (s':ByteArray) (a':Option Addr) (l' c':Nat) (w:World) (h:k=0∨k'=0) :
 Calls Tryz.prog 33 #[G #[B A k,B A n,C s,D a l c],G #[B A k',B A n',C s',D a' l' c']] w fun e w'=>e=F (G #[B A 0,B A 0,C ⟨#[]⟩,D none 0 0])∧Below w.heap.size w w':=by
 have cT:Hid (∀W,Calls Tryz.prog 24 #[B A 2] W fun e w'=>e=F (G #[B A 0,B A 0,C ⟨#[]⟩,D none 0 0])∧Below W.heap.size W w'):=fun W=>dz 2 W
 go_enter Tryz.func33,Tryz.ntmps33
 go_upto_region 1 with fail
 go_cut [15] (fun s15 wx=>s15 = .bool true∧wx=(((w.alloc (E #[B A k,B A n,C s,D a l c] 30)).alloc (E #[B A k',B A n',C s',D a' l' c'] 30)).alloc (E #[B A 0,B A 0,C ⟨#[]⟩,D none 0 0] 30)))
 case first=>
  by_cases e1:k=0
  ·subst e1
   clear h
   go_wp2_with fail
   go_meet
   exact⟨rfl,rfl⟩
  ·have e2:k'=0:=by omega
   subst e2
   have h2:(k==0)=false:=by simp[e1]
   clear h
   go_wp2_with fail
   go_meet
   exact⟨rfl,rfl⟩
 case rest=>
  obtain⟨rfl,rfl⟩:=hcut
  have b0:Below w.heap.size w (((w.alloc (E #[B A k,B A n,C s,D a l c] 30)).alloc (E #[B A k',B A n',C s',D a' l' c'] 30)).alloc (E #[B A 0,B A 0,C ⟨#[]⟩,D none 0 0] 30)):=(((I _ _).alloc (H _) _).alloc (by simp) _).alloc (by simp;omega) _
  have hbox:=cg w (E #[B A k,B A n,C s,D a l c] 30) (E #[B A k',B A n',C s',D a' l' c'] 30) (E #[B A 0,B A 0,C ⟨#[]⟩,D none 0 0] 30)
  have hsz:(((w.alloc (E #[B A k,B A n,C s,D a l c] 30)).alloc (E #[B A k',B A n',C s',D a' l' c'] 30)).alloc (E #[B A 0,B A 0,C ⟨#[]⟩,D none 0 0] 30)).heap.size=w.heap.size+1+1+1:=by simp
  go_wp2_with fail
  refine(cT.out _).mono ?_
  rintro e w2 ⟨rfl,k2⟩
  have c2:=af b0 k2
  have hb2:=(k2.block (w.heap.size+1+1) (by omega)).trans hbox
  clear hbox hsz
  obtain⟨x0,x1,x2,x3⟩:=ai hb2
  obtain⟨y0,y1,y2,y3⟩:=aq hb2
  simp at x0 x1 x2 x3
  have HBX:=aa hb2
  clear hb2
  go_wp2_with fail
  have zz:=aQ HBX.out (B A 0) (B A 0) (C ⟨#[]⟩) (D none 0 0)
  have zb:=aY w2 (w.heap.size+1+1) (B A 0) (B A 0) (C ⟨#[]⟩) (D none 0 0)
  obtain⟨t0,t1,t2,t3⟩:=ai zz
  have eP:(((w2.setCell ⟨w.heap.size+1+1,0,none⟩ (B A 0)).setCell ⟨w.heap.size+1+1,1,none⟩ (B A 0)).setCell ⟨w.heap.size+1+1,2,none⟩ (C ⟨#[]⟩)).setCell ⟨w.heap.size+1+1,3,none⟩ (D none 0 0)=bC w2 (w.heap.size+1+1) (B A 0) (B A 0) (C ⟨#[]⟩) (D none 0 0):=rfl
  rw[eP]
  clear eP
  generalize bC w2 (w.heap.size+1+1) (B A 0) (B A 0) (C ⟨#[]⟩) (D none 0 0)=W9 at zz zb t0 t1 t2 t3 ⊢
  simp at t0 t1 t2 t3
  exact bodyPost_ret (v:=G #[B A 0,B A 0,C ⟨#[]⟩,D none 0 0]) (by simp[results,Tryz.results33,go_sem,t0,t1,t2,t3]) rfl ⟨rfl,c2.trans (zb.mono (by omega))⟩
theorem mg (k n:Int) (s:ByteArray) (a:Option Addr) (l c:Nat) (k' n':Int) (s':ByteArray) (a':Option Addr) (l' c':Nat) (z:Int) (w:World) (h:¬(k=0∨k'=0)) (h4:¬(k=4∧k'=4)) (hO:∀W,Below w.heap.size w W→Calls Tryz.prog 29 #[G #[B A k,B A n,C s,D a l c],G #[B A k',B A n',C s',D a' l' c']] W fun e w'=>e=F (B A z)∧Below W.heap.size W w') :
 Calls Tryz.prog 33 #[G #[B A k,B A n,C s,D a l c],G #[B A k',B A n',C s',D a' l' c']] w fun e w'=>e=F (eO (if z=0 then 1 else 0))∧Below w.heap.size w w':=by
 have cS:Hid (∀W,Below w.heap.size w W→Calls Tryz.prog 11 #[G #[B A k,B A n,C s,D a l c],G #[B A k',B A n',C s',D a' l' c']] W fun e w'=>e=F (.bool (z==0))∧Below W.heap.size W w'):=fun W kW=>ii k n s a l c k' n' s' a' l' c' z W (fun w2 k2=>hO w2 (af kW k2))
 obtain⟨Y,hY⟩:∃Y,Y=eO (if z=0 then 1 else 0):=⟨_,rfl⟩
 rw[←hY]
 have HY:=aa hY
 clear hY
 have cT:Hid (∀W,Calls Tryz.prog 24 #[B A 1] W fun e w'=>e=F (G #[B A 1,B A 1,C ⟨#[]⟩,D none 0 0])∧Below W.heap.size W w'):=fun W=>dz 1 W
 have cF:Hid (∀W,Calls Tryz.prog 24 #[B A 0] W fun e w'=>e=F (G #[B A 1,B A 0,C ⟨#[]⟩,D none 0 0])∧Below W.heap.size W w'):=fun W=>dz 0 W
 have h1:(k==0)=false:=by simp;omega
 have h2:(k'==0)=false:=by simp;omega
 have H4:=aa h4
 clear h h4 hO
 go_enter Tryz.func33,Tryz.ntmps33
 go_upto_region 3 with fail
 go_cut [24] (fun s24 wx=>s24 = .bool false∧wx=(((w.alloc (E #[B A k,B A n,C s,D a l c] 30)).alloc (E #[B A k',B A n',C s',D a' l' c'] 30)).alloc (E #[B A 0,B A 0,C ⟨#[]⟩,D none 0 0] 30)))
 case first=>
  by_cases e1:k=4
  ·have e2:(k'==4)=false:=by
    have:=H4.out
    simp;omega
   subst e1
   go_wp2_with fail
   go_meet
   exact⟨rfl,rfl⟩
  ·have h3:(k==4)=false:=by simp[e1]
   go_wp2_with fail
   go_meet
   exact⟨rfl,rfl⟩
 case rest=>
  obtain⟨rfl,rfl⟩:=hcut
  have b0:Below w.heap.size w (((w.alloc (E #[B A k,B A n,C s,D a l c] 30)).alloc (E #[B A k',B A n',C s',D a' l' c'] 30)).alloc (E #[B A 0,B A 0,C ⟨#[]⟩,D none 0 0] 30)):=(((I _ _).alloc (H _) _).alloc (by simp) _).alloc (by simp;omega) _
  have hbox:=cg w (E #[B A k,B A n,C s,D a l c] 30) (E #[B A k',B A n',C s',D a' l' c'] 30) (E #[B A 0,B A 0,C ⟨#[]⟩,D none 0 0] 30)
  have hsz:(((w.alloc (E #[B A k,B A n,C s,D a l c] 30)).alloc (E #[B A k',B A n',C s',D a' l' c'] 30)).alloc (E #[B A 0,B A 0,C ⟨#[]⟩,D none 0 0] 30)).heap.size=w.heap.size+1+1+1:=by simp
  go_wp2_with fail
  refine(cS.out _ b0).mono ?_
  rintro e w1 ⟨rfl,k1⟩
  have c1:=af b0 k1
  have hb1:=(k1.block (w.heap.size+1+1) (by omega)).trans hbox
  have hs1:=k1.size
  by_cases hz:z=0
  ·have hz':(z==0)=true:=by simp[hz]
   have HZ:=aa hz
   clear hz
   go_wp2_with fail
   refine(cT.out _).mono ?_
   rintro e w2 ⟨rfl,k2⟩
   have c2:=af c1 k2
   have hb2:=(k2.block (w.heap.size+1+1) (by omega)).trans hb1
   clear hb1 hbox hsz
   obtain⟨x0,x1,x2,x3⟩:=ai hb2
   obtain⟨y0,y1,y2,y3⟩:=aq hb2
   simp at x0 x1 x2 x3
   have HBX:=aa hb2
   clear hb2
   go_wp2_with fail
   have zz:=aQ HBX.out (B A 1) (B A 1) (C ⟨#[]⟩) (D none 0 0)
   have zb:=aY w2 (w.heap.size+1+1) (B A 1) (B A 1) (C ⟨#[]⟩) (D none 0 0)
   obtain⟨t0,t1,t2,t3⟩:=ai zz
   have eP:(((w2.setCell ⟨w.heap.size+1+1,0,none⟩ (B A 1)).setCell ⟨w.heap.size+1+1,1,none⟩ (B A 1)).setCell ⟨w.heap.size+1+1,2,none⟩ (C ⟨#[]⟩)).setCell ⟨w.heap.size+1+1,3,none⟩ (D none 0 0)=bC w2 (w.heap.size+1+1) (B A 1) (B A 1) (C ⟨#[]⟩) (D none 0 0):=rfl
   rw[eP]
   clear eP
   generalize bC w2 (w.heap.size+1+1) (B A 1) (B A 1) (C ⟨#[]⟩) (D none 0 0)=W9 at zz zb t0 t1 t2 t3 ⊢
   simp at t0 t1 t2 t3
   exact bodyPost_ret (v:=G #[B A 1,B A 1,C ⟨#[]⟩,D none 0 0]) (by simp[results,Tryz.results33,go_sem,t0,t1,t2,t3]) rfl ⟨by rw[HY.out,if_pos HZ.out];rfl,c2.trans (zb.mono (by omega))⟩
  ·have hz':(z==0)=false:=by simp[hz]
   have HZ:=aa hz
   clear hz
   go_wp2_with fail
   refine(cF.out _).mono ?_
   rintro e w2 ⟨rfl,k2⟩
   have c2:=af c1 k2
   have hb2:=(k2.block (w.heap.size+1+1) (by omega)).trans hb1
   clear hb1 hbox hsz
   obtain⟨x0,x1,x2,x3⟩:=ai hb2
   obtain⟨y0,y1,y2,y3⟩:=aq hb2
   simp at x0 x1 x2 x3
   have HBX:=aa hb2
   clear hb2
   go_wp2_with fail
   have zz:=aQ HBX.out (B A 1) (B A 0) (C ⟨#[]⟩) (D none 0 0)
   have zb:=aY w2 (w.heap.size+1+1) (B A 1) (B A 0) (C ⟨#[]⟩) (D none 0 0)
   obtain⟨t0,t1,t2,t3⟩:=ai zz
   have eP:(((w2.setCell ⟨w.heap.size+1+1,0,none⟩ (B A 1)).setCell ⟨w.heap.size+1+1,1,none⟩ (B A 0)).setCell ⟨w.heap.size+1+1,2,none⟩ (C ⟨#[]⟩)).setCell ⟨w.heap.size+1+1,3,none⟩ (D none 0 0)=bC w2 (w.heap.size+1+1) (B A 1) (B A 0) (C ⟨#[]⟩) (D none 0 0):=rfl
   rw[eP]
   clear eP
   generalize bC w2 (w.heap.size+1+1) (B A 1) (B A 0) (C ⟨#[]⟩) (D none 0 0)=W9 at zz zb t0 t1 t2 t3 ⊢
   simp at t0 t1 t2 t3
   exact bodyPost_ret (v:=G #[B A 1,B A 0,C ⟨#[]⟩,D none 0 0]) (by simp[results,Tryz.results33,go_sem,t0,t1,t2,t3]) rfl ⟨by rw[HY.out,if_neg HZ.out];rfl,c2.trans (zb.mono (by omega))⟩
theorem oT (n:Int) (s:ByteArray) (a:Option Addr) (l c:Nat) (n':Int) (s':ByteArray) (a':Option Addr) (l' c':Nat) (w:World) (hl:l≤9223372036854775807) (hl':l'≤9223372036854775807) (h:l≠l') :
 Calls Tryz.prog 33 #[G #[B A 4,B A n,C s,D a l c],G #[B A 4,B A n',C s',D a' l' c']] w fun e w'=>e=F (G #[B A 1,B A 0,C ⟨#[]⟩,D none 0 0])∧Below w.heap.size w w':=by
 have cF:Hid (∀W,Calls Tryz.prog 24 #[B A 0] W fun e w'=>e=F (G #[B A 1,B A 0,C ⟨#[]⟩,D none 0 0])∧Below W.heap.size W w'):=fun W=>dz 0 W
 have h1:((l:Int) != (l':Int))=true:=by simp;omega
 have b0:Below w.heap.size w (((w.alloc (E #[B A 4,B A n,C s,D a l c] 30)).alloc (E #[B A 4,B A n',C s',D a' l' c'] 30)).alloc (E #[B A 0,B A 0,C ⟨#[]⟩,D none 0 0] 30)):=(((I _ _).alloc (H _) _).alloc (by simp) _).alloc (by simp;omega) _
 have hbox:=cg w (E #[B A 4,B A n,C s,D a l c] 30) (E #[B A 4,B A n',C s',D a' l' c'] 30) (E #[B A 0,B A 0,C ⟨#[]⟩,D none 0 0] 30)
 have hsz:(((w.alloc (E #[B A 4,B A n,C s,D a l c] 30)).alloc (E #[B A 4,B A n',C s',D a' l' c'] 30)).alloc (E #[B A 0,B A 0,C ⟨#[]⟩,D none 0 0] 30)).heap.size=w.heap.size+1+1+1:=by simp
 have HB:=aa hbox
 have HS:=aa hsz
 clear h hbox hsz
 go_enter Tryz.func33,Tryz.ntmps33
 go_wp2_with fail
 refine(cF.out _).mono ?_
 rintro e w2 ⟨rfl,k2⟩
 have c2:=af b0 k2
 have hb2:=(k2.block (w.heap.size+1+1) (by have:=HS.out;omega)).trans HB.out
 obtain⟨x0,x1,x2,x3⟩:=ai hb2
 obtain⟨y0,y1,y2,y3⟩:=aq hb2
 simp at x0 x1 x2 x3
 have HBX:=aa hb2
 clear hb2
 go_wp2_with fail
 have zz:=aQ HBX.out (B A 1) (B A 0) (C ⟨#[]⟩) (D none 0 0)
 have zb:=aY w2 (w.heap.size+1+1) (B A 1) (B A 0) (C ⟨#[]⟩) (D none 0 0)
 obtain⟨t0,t1,t2,t3⟩:=ai zz
 have eP:(((w2.setCell ⟨w.heap.size+1+1,0,none⟩ (B A 1)).setCell ⟨w.heap.size+1+1,1,none⟩ (B A 0)).setCell ⟨w.heap.size+1+1,2,none⟩ (C ⟨#[]⟩)).setCell ⟨w.heap.size+1+1,3,none⟩ (D none 0 0)=bC w2 (w.heap.size+1+1) (B A 1) (B A 0) (C ⟨#[]⟩) (D none 0 0):=rfl
 rw[eP]
 clear eP
 generalize bC w2 (w.heap.size+1+1) (B A 1) (B A 0) (C ⟨#[]⟩) (D none 0 0)=W9 at zz zb t0 t1 t2 t3 ⊢
 simp at t0 t1 t2 t3
 exact bodyPost_ret (v:=G #[B A 1,B A 0,C ⟨#[]⟩,D none 0 0]) (by simp[results,Tryz.results33,go_sem,t0,t1,t2,t3]) rfl ⟨rfl,c2.trans (zb.mono (by omega))⟩
theorem mh (n:Int) (s:ByteArray) (a:Option Addr) (c:Nat) (n':Int) (s':ByteArray) (a':Option Addr) (c':Nat) (w:World) :
 Calls Tryz.prog 33 #[G #[B A 4,B A n,C s,D a 0 c],G #[B A 4,B A n',C s',D a' 0 c']] w fun e w'=>e=F (G #[B A 1,B A 1,C ⟨#[]⟩,D none 0 0])∧Below w.heap.size w w':=by
 have cT:Hid (∀W,Calls Tryz.prog 24 #[B A 1] W fun e w'=>e=F (G #[B A 1,B A 1,C ⟨#[]⟩,D none 0 0])∧Below W.heap.size W w'):=fun W=>dz 1 W
 have b0:Below w.heap.size w (((w.alloc (E #[B A 4,B A n,C s,D a 0 c] 30)).alloc (E #[B A 4,B A n',C s',D a' 0 c'] 30)).alloc (E #[B A 0,B A 0,C ⟨#[]⟩,D none 0 0] 30)):=(((I _ _).alloc (H _) _).alloc (by simp) _).alloc (by simp;omega) _
 have hbox:=cg w (E #[B A 4,B A n,C s,D a 0 c] 30) (E #[B A 4,B A n',C s',D a' 0 c'] 30) (E #[B A 0,B A 0,C ⟨#[]⟩,D none 0 0] 30)
 have hsz:(((w.alloc (E #[B A 4,B A n,C s,D a 0 c] 30)).alloc (E #[B A 4,B A n',C s',D a' 0 c'] 30)).alloc (E #[B A 0,B A 0,C ⟨#[]⟩,D none 0 0] 30)).heap.size=w.heap.size+1+1+1:=by simp
 have HB:=aa hbox
 have HS:=aa hsz
 clear hbox hsz
 go_enter Tryz.func33,Tryz.ntmps33
 go_wp2_with fail
 generalize (((w.alloc (E #[B A 4,B A n,C s,D a 0 c] 30)).alloc (E #[B A 4,B A n',C s',D a' 0 c'] 30)).alloc (E #[B A 0,B A 0,C ⟨#[]⟩,D none 0 0] 30))=W0 at b0 HB HS ⊢
 go_loopg [5,36] 0 (fun g s5 s36 wr=>s5 = .bool false∧s36=B A 0∧wr=W0)
 case atStart=>exact⟨rfl,rfl,rfl⟩
 case round=>
  obtain⟨rfl,rfl,rfl⟩:=hrel
  go_wp2_with fail
  refine(cT.out _).mono ?_
  rintro e w2 ⟨rfl,k2⟩
  have c2:=af b0 k2
  have hb2:=(k2.block (w.heap.size+1+1) (by have:=HS.out;omega)).trans HB.out
  obtain⟨x0,x1,x2,x3⟩:=ai hb2
  obtain⟨y0,y1,y2,y3⟩:=aq hb2
  simp at x0 x1 x2 x3
  have HBX:=aa hb2
  clear hb2
  go_wp2_with fail
  have zz:=aQ HBX.out (B A 1) (B A 1) (C ⟨#[]⟩) (D none 0 0)
  have zb:=aY w2 (w.heap.size+1+1) (B A 1) (B A 1) (C ⟨#[]⟩) (D none 0 0)
  obtain⟨t0,t1,t2,t3⟩:=ai zz
  have eP:(((w2.setCell ⟨w.heap.size+1+1,0,none⟩ (B A 1)).setCell ⟨w.heap.size+1+1,1,none⟩ (B A 1)).setCell ⟨w.heap.size+1+1,2,none⟩ (C ⟨#[]⟩)).setCell ⟨w.heap.size+1+1,3,none⟩ (D none 0 0)=bC w2 (w.heap.size+1+1) (B A 1) (B A 1) (C ⟨#[]⟩) (D none 0 0):=rfl
  rw[eP]
  clear eP
  generalize bC w2 (w.heap.size+1+1) (B A 1) (B A 1) (C ⟨#[]⟩) (D none 0 0)=W9 at zz zb t0 t1 t2 t3 ⊢
  simp at t0 t1 t2 t3
  exact bodyPost_ret (v:=G #[B A 1,B A 1,C ⟨#[]⟩,D none 0 0]) (by simp[results,Tryz.results33,go_sem,t0,t1,t2,t3]) rfl ⟨rfl,c2.trans (zb.mono (by omega))⟩
theorem uS (un:Bool):Tri (ku un):=by
 cases un
 ·exact .inr (.inl rfl)
 ·exact .inr (.inr rfl)
theorem tH {un:Bool} {S:Int} (hS:Tri S):meet (ku un) (meet 2 S)=meet (ku true) S:=by
 cases un<;>rcases hS with rfl | rfl | rfl<;>simp[meet,ku]
theorem nw (n:Int) (s:ByteArray) (b off l c:Nat) (n':Int) (s':ByteArray) (b' off' c':Nat) (L L':List T) (w:World) (hL:am w L (some ⟨b,off,none⟩) l) (hL':am w L' (some ⟨b',off',none⟩) l) (hll:l≤1099511627776)
 (hE:∀(kt nt:Int) (st:ByteArray) (at':Option Addr) (lt ct:Nat) (Lt:List T) (ku nu:Int) (su:ByteArray) (au':Option Addr) (lu cu:Nat) (Lu:List T) (W:World),wtL Lt<wtL L→wtL Lu<wtL L'→am w Lt at' lt→am w Lu au' lu→Below w.heap.size w W→Calls Tryz.prog 33 #[G #[B A kt,B A nt,C st,D at' lt ct],G #[B A ku,B A nu,C su,D au' lu cu]] W fun e w'=>e=F (eO (aU (.node kt nt st Lt) (.node ku nu su Lu)))∧Below W.heap.size W w') :
 Calls Tryz.prog 33 #[G #[B A 4,B A n,C s,D (some ⟨b,off,none⟩) l c],G #[B A 4,B A n',C s',D (some ⟨b',off',none⟩) l c']] w fun e w'=>e=F (eO (co L L'))∧Below w.heap.size w w':=by
 obtain⟨R,hR⟩:∃R,R=co L L':=⟨_,rfl⟩
 rw[←hR]
 have cF:Hid (∀W,Calls Tryz.prog 24 #[B A 0] W fun e w'=>e=F (G #[B A 1,B A 0,C ⟨#[]⟩,D none 0 0])∧Below W.heap.size W w'):=fun W=>dz 0 W
 have cT:Hid (∀W,Calls Tryz.prog 24 #[B A 1] W fun e w'=>e=F (G #[B A 1,B A 1,C ⟨#[]⟩,D none 0 0])∧Below W.heap.size W w'):=fun W=>dz 1 W
 have cU:Hid (∀W,Calls Tryz.prog 24 #[B A 2] W fun e w'=>e=F (G #[B A 0,B A 0,C ⟨#[]⟩,D none 0 0])∧Below W.heap.size W w'):=fun W=>dz 2 W
 have b0:Below w.heap.size w (((w.alloc (E #[B A 4,B A n,C s,D (some ⟨b,off,none⟩) l c] 30)).alloc (E #[B A 4,B A n',C s',D (some ⟨b',off',none⟩) l c'] 30)).alloc (E #[B A 0,B A 0,C ⟨#[]⟩,D none 0 0] 30)):=(((I _ _).alloc (H _) _).alloc (by simp) _).alloc (by simp;omega) _
 have hbox:=cg w (E #[B A 4,B A n,C s,D (some ⟨b,off,none⟩) l c] 30) (E #[B A 4,B A n',C s',D (some ⟨b',off',none⟩) l c'] 30) (E #[B A 0,B A 0,C ⟨#[]⟩,D none 0 0] 30)
 have hsz:(((w.alloc (E #[B A 4,B A n,C s,D (some ⟨b,off,none⟩) l c] 30)).alloc (E #[B A 4,B A n',C s',D (some ⟨b',off',none⟩) l c'] 30)).alloc (E #[B A 0,B A 0,C ⟨#[]⟩,D none 0 0] 30)).heap.size=w.heap.size+1+1+1:=by simp
 have x3:(((w.alloc (E #[B A 4,B A n,C s,D (some ⟨b,off,none⟩) l c] 30)).alloc (E #[B A 4,B A n',C s',D (some ⟨b',off',none⟩) l c'] 30)).alloc (E #[B A 0,B A 0,C ⟨#[]⟩,D none 0 0] 30)).cell? ⟨w.heap.size,3,none⟩=some (D (some ⟨b,off,none⟩) l c):=(bS _ _ _ _ (by simp;omega)).trans ((bS _ _ _ _ (by simp)).trans (ac (ae w _) 3))
 have y3:(((w.alloc (E #[B A 4,B A n,C s,D (some ⟨b,off,none⟩) l c] 30)).alloc (E #[B A 4,B A n',C s',D (some ⟨b',off',none⟩) l c'] 30)).alloc (E #[B A 0,B A 0,C ⟨#[]⟩,D none 0 0] 30)).cell? ⟨w.heap.size+1,3,none⟩=some (D (some ⟨b',off',none⟩) l c'):=(bS _ _ _ _ (by simp)).trans (ac (ay w _ _) 3)
 have HR:=aa hR
 have HL:=aa hL
 have HL':=aa hL'
 have HE:=aa hE
 have HBX:=aa hbox
 have HSZ:=aa hsz
 have X3:=aa x3
 have Y3:=aa y3
 clear hR hL hL' hE hbox hsz x3 y3
 go_enter Tryz.func33,Tryz.ntmps33
 go_wp2_with fail
 generalize (((w.alloc (E #[B A 4,B A n,C s,D (some ⟨b,off,none⟩) l c] 30)).alloc (E #[B A 4,B A n',C s',D (some ⟨b',off',none⟩) l c'] 30)).alloc (E #[B A 0,B A 0,C ⟨#[]⟩,D none 0 0] 30))=W0 at b0 HBX HSZ X3 Y3 ⊢
 go_loopg [5,36] l (fun g s5 s36 wr=>∃(un:Bool) (i:Nat),s5 = .bool un∧s36=B A i∧i≤l∧l-i≤g∧Below W0.heap.size W0 wr∧R=meet (ku un) (co (L.drop i) (L'.drop i)))
 case atStart=>
  refine⟨false,0,rfl,rfl,Nat.zero_le _,by omega,I _ _,?_⟩
  rw[HR.out]
  exact(gc (bs _ _)).symm
 case round=>
  clear HR
  obtain⟨un,i,rfl,rfl,hi,hg,hb,hRi⟩:=hrel
  have HR:=aa hRi
  have hsr:=hb.size
  have hsz:=HSZ.out
  have cw:=af b0 hb
  clear hRi
  by_cases hlt:i<l
  ·obtain⟨kt,nt,st,Lt,at',lt,ct,hbb,hd,p0,p1,p2,p3,hlc,hLt,hwt⟩:=HL.out.at hlt
   obtain⟨ku',nu,su,Lu,au',lu,cu,hbb',hd',q0,q1,q2,q3,hluc,hLu,hwu⟩:=HL'.out.at hlt
   have cE:Hid (∀W,Below w.heap.size w W→Calls Tryz.prog 33 #[G #[B A kt,B A nt,C st,D at' lt ct],G #[B A ku',B A nu,C su,D au' lu cu]] W fun e w'=>e=F (eO (aU (.node kt nt st Lt) (.node ku' nu su Lu)))∧Below W.heap.size W w'):=fun W kW=>HE.out kt nt st at' lt ct Lt ku' nu su au' lu cu Lu W hwt hwu hLt hLu kW
   have hRd:R=meet (ku un) (meet (aU (.node kt nt st Lt) (.node ku' nu su Lu)) (co (L.drop (i+1)) (L'.drop (i+1)))):=by
    have h1:=HR.out
    rw[hd,hd',fp] at h1
    exact h1
   have c0:=(cw.cell hbb).trans p0
   have c1:=(cw.cell hbb).trans p1
   have c2:=(cw.cell hbb).trans p2
   have c3:=(cw.cell hbb).trans p3
   have d0:=(cw.cell hbb').trans q0
   have d1:=(cw.cell hbb').trans q1
   have d2:=(cw.cell hbb').trans q2
   have d3:=(cw.cell hbb').trans q3
   have x3:wr.cell? ⟨w.heap.size,3,none⟩=some (D (some ⟨b,off,none⟩) l c):=(hb.cell (by show w.heap.size<_;omega)).trans X3.out
   have y3:wr.cell? ⟨w.heap.size+1,3,none⟩=some (D (some ⟨b',off',none⟩) l c'):=(hb.cell (by show w.heap.size+1<_;omega)).trans Y3.out
   obtain⟨v,hv⟩:∃v,aU (.node kt nt st Lt) (.node ku' nu su Lu)=v:=⟨_,rfl⟩
   have htri:Tri v:=by rw[←hv];exact dk _ _
   rw[hv] at hRd
   obtain⟨vk,hvk⟩:∃vk:Int,vk=(if v=2 then 0 else 1):=⟨_,rfl⟩
   obtain⟨vn,hvn⟩:∃vn:Int,vn=(if v=2 then 0 else v):=⟨_,rfl⟩
   have cV:Hid (∀W,Below w.heap.size w W→Calls Tryz.prog 33 #[G #[B A kt,B A nt,C st,D at' lt ct],G #[B A ku',B A nu,C su,D au' lu cu]] W fun e w'=>e=F (G #[B A vk,B A vn,C ⟨#[]⟩,D none 0 0])∧Below W.heap.size W w'):=fun W kW=>by
    have:=cE.out W kW
    rw[hv] at this
    have e:eO v=G #[B A vk,B A vn,C ⟨#[]⟩,D none 0 0]:=by
     rw[hvk,hvn]
     unfold eO
     split<;>rfl
    rw[e] at this
    exact this
   have HRd:=aa hRd
   have HVK:=aa hvk
   have HVN:=aa hvn
   have i1:(i:Int)<(l:Int):=by omega
   have hbr:b<wr.heap.size:=by omega
   have hbr':b'<wr.heap.size:=by omega
   clear p0 p1 p2 p3 q0 q1 q2 q3 hd hd' hLt hLu cE HR hRd hvk hvn hv hwt hwu
   have n1:¬wr.heap.size=w.heap.size:=by omega
   have n2:¬wr.heap.size=w.heap.size+1:=by omega
   have n3:¬wr.heap.size=b:=by omega
   have n4:¬wr.heap.size=b':=by omega
   go_upto_region 10 with fail
   go_cut [7] (fun s7 wx=>∃p,s7=J (some ⟨p,0,none⟩)∧wr.heap.size≤p∧wx.heap[p]? = some (E #[B A vk,B A vn,C ⟨#[]⟩,D none 0 0] 30 (0,0))∧Below wr.heap.size wr wx)
   case first=>
    go_region_held3 (fun w'=>w'.cell? ⟨w.heap.size,3,none⟩=some (D (some ⟨b,off,none⟩) l c)∧w'.cell? ⟨w.heap.size+1,3,none⟩=some (D (some ⟨b',off',none⟩) l c')∧w'.cell? ⟨b,off+i*4,none⟩=some (B A kt)∧w'.cell? ⟨b,off+i*4+1,none⟩=some (B A nt)∧w'.cell? ⟨b,off+i*4+1+1,none⟩=some (C st)∧w'.cell? ⟨b,off+i*4+1+1+1,none⟩=some (D at' lt ct)∧w'.cell? ⟨b',off'+i*4,none⟩=some (B A ku')∧w'.cell? ⟨b',off'+i*4+1,none⟩=some (B A nu)∧w'.cell? ⟨b',off'+i*4+1+1,none⟩=some (C su)∧w'.cell? ⟨b',off'+i*4+1+1+1,none⟩=some (D au' lu cu))
     (first
       | exact⟨x3,y3,c0,c1,c2,c3,d0,d1,d2,d3⟩
       | exact S1
       | (simp only[World.cell?_setCell_far,ne_eq,n1,n2,n3,n4,not_false_eq_true];exact S1)
       | go_keep)
     (first
       | (go_at_call 33
          go_fit (cV.out _ (by first | exact cw.drew | exact(cw.drew).alloc cw.size _))
          rintro e u ⟨rfl,h1⟩
          have k1:Below wr.heap.size wr u:=by first | exact((I _ _).drew).trans h1 | exact(((I _ _).drew).alloc (H _) _).trans (h1.mono (by simp))
          have S1:u.cell? ⟨w.heap.size,3,none⟩=some (D (some ⟨b,off,none⟩) l c)∧u.cell? ⟨w.heap.size+1,3,none⟩=some (D (some ⟨b',off',none⟩) l c')∧u.cell? ⟨b,off+i*4,none⟩=some (B A kt)∧u.cell? ⟨b,off+i*4+1,none⟩=some (B A nt)∧u.cell? ⟨b,off+i*4+1+1,none⟩=some (C st)∧u.cell? ⟨b,off+i*4+1+1+1,none⟩=some (D at' lt ct)∧u.cell? ⟨b',off'+i*4,none⟩=some (B A ku')∧u.cell? ⟨b',off'+i*4+1,none⟩=some (B A nu)∧u.cell? ⟨b',off'+i*4+1+1,none⟩=some (C su)∧u.cell? ⟨b',off'+i*4+1+1+1,none⟩=some (D au' lu cu):=⟨(k1.cell (by show w.heap.size<_;omega)).trans x3,(k1.cell (by show w.heap.size+1<_;omega)).trans y3,(k1.cell hbr).trans c0,(k1.cell hbr).trans c1,(k1.cell hbr).trans c2,(k1.cell hbr).trans c3,(k1.cell hbr').trans d0,(k1.cell hbr').trans d1,(k1.cell hbr').trans d2,(k1.cell hbr').trans d3⟩
          try
           have hbx:u.heap[wr.heap.size]? = some (E #[B A 0,B A 0,C ⟨#[]⟩,D none 0 0] 30):=(h1.block _ (by simp)).trans (ae wr.drew _)
           obtain⟨f0,f1,f2,f3⟩:=ai hbx
           obtain⟨g0,g1,g2,g3⟩:=aq hbx
           simp at f0 f1 f2 f3
           have HX:=aa hbx
           clear hbx))
    all_goals
     go_wp2_with fail
     go_meet
     first
      | exact⟨u.heap.size,rfl,k1.size,ae _ _,k1.alloc k1.size _⟩
      | exact⟨wr.heap.size,rfl,H _,aQ HX.out _ _ _ _,k1.trans (aY u wr.heap.size _ _ _ _)⟩
   case rest=>
    obtain⟨p,rfl,hp,hpx,k2⟩:=hcut
    have e0:wc.cell? ⟨p,0,none⟩=some (B A vk):=ac hpx 0
    have e1:wc.cell? ⟨p,1,none⟩=some (B A vn):=ac hpx 1
    have b2:Below W0.heap.size W0 wc:=hb.trans (k2.mono hsr)
    have s2:=k2.size
    clear hpx x3 y3 c0 c1 c2 c3 d0 d1 d2 d3
    rcases htri with hv | hv | hv
    ·have hk1:vk=1:=by rw[HVK.out,hv];rfl
     have hn1:vn=0:=by rw[HVN.out,hv];rfl
     have hRv:R=0:=by rw[HRd.out,hv,gx,meet_zero']
     rw[hk1] at e0
     rw[hn1] at e1
     have HRV:=aa hRv
     clear hk1 hn1 hRv hv
     go_wp2_with fail
     refine(cF.out _).mono ?_
     rintro e w5 ⟨rfl,k5⟩
     have hb5:w5.heap[w.heap.size+1+1]? = some (E #[B A 0,B A 0,C ⟨#[]⟩,D none 0 0] 30):=by
      rw[k5.block _ (by omega),b2.block _ (by omega)]
      exact HBX.out
     have c5:=af (af b0 b2) k5
     clear e0 e1
     obtain⟨x0,x1,x2,x3⟩:=ai hb5
     obtain⟨y0,y1,y2,y3⟩:=aq hb5
     simp at x0 x1 x2 x3
     have HBY:=aa hb5
     clear hb5
     go_wp2_with fail
     have zz:=aQ HBY.out (B A 1) (B A 0) (C ⟨#[]⟩) (D none 0 0)
     have zb:=aY w5 (w.heap.size+1+1) (B A 1) (B A 0) (C ⟨#[]⟩) (D none 0 0)
     obtain⟨t0,t1,t2,t3⟩:=ai zz
     have eP:(((w5.setCell ⟨w.heap.size+1+1,0,none⟩ (B A 1)).setCell ⟨w.heap.size+1+1,1,none⟩ (B A 0)).setCell ⟨w.heap.size+1+1,2,none⟩ (C ⟨#[]⟩)).setCell ⟨w.heap.size+1+1,3,none⟩ (D none 0 0)=bC w5 (w.heap.size+1+1) (B A 1) (B A 0) (C ⟨#[]⟩) (D none 0 0):=rfl
     rw[eP]
     clear eP
     generalize bC w5 (w.heap.size+1+1) (B A 1) (B A 0) (C ⟨#[]⟩) (D none 0 0)=W9 at zz zb t0 t1 t2 t3 ⊢
     simp at t0 t1 t2 t3
     exact bodyPost_ret (v:=G #[B A 1,B A 0,C ⟨#[]⟩,D none 0 0]) (by simp[results,Tryz.results33,go_sem,t0,t1,t2,t3]) rfl ⟨by rw[HRV.out];rfl,c5.trans (zb.mono (by omega))⟩
    ·have hk1:vk=1:=by rw[HVK.out,hv];rfl
     have hn1:vn=1:=by rw[HVN.out,hv];rfl
     rw[hk1] at e0
     rw[hn1] at e1
     have HV:=aa hv
     clear hk1 hn1 hv
     go_wp2_with fail
     go_roundg (l-(i+1))
     case measure=>omega
     case rel=>
      refine⟨un,i+1,rfl,by go_num,by omega,by omega,b2,?_⟩
      rw[HRd.out,HV.out,gc (bs _ _)]
    ·have hk1:vk=0:=by rw[HVK.out,hv];rfl
     rw[hk1] at e0
     have HV:=aa hv
     clear hk1 hv
     go_wp2_with fail
     go_roundg (l-(i+1))
     case measure=>omega
     case rel=>
      refine⟨true,i+1,rfl,by go_num,by omega,by omega,b2,?_⟩
      rw[HRd.out,HV.out]
      exact tH (bs _ _)
  ·have hil:i=l:=by omega
   have hRv:R=ku un:=by
    have h1:L.drop i = []:=by rw[hil,HL.out.length.1];exact List.drop_length
    have h2:L'.drop i = []:=by rw[hil,HL'.out.length.1];exact List.drop_length
    rw[HR.out,h1,h2,gt,meet_one' (uS _)]
   have HRV:=aa hRv
   have hb6:wr.heap[w.heap.size+1+1]? = some (E #[B A 0,B A 0,C ⟨#[]⟩,D none 0 0] 30):=by
    rw[hb.block _ (by omega)]
    exact HBX.out
   have e3:decide ((i:Int)<(l:Int))=false:=by simp;omega
   clear hRv HR hil HL HL' HE
   cases un with
   | true=>
     go_wp2_with fail
     refine(cU.out _).mono ?_
     rintro e w5 ⟨rfl,k5⟩
     have hb5:=(k5.block _ (by omega)).trans hb6
     have c5:=af cw k5
     clear hb6
     obtain⟨x0,x1,x2,x3⟩:=ai hb5
     obtain⟨y0,y1,y2,y3⟩:=aq hb5
     simp at x0 x1 x2 x3
     have HBY:=aa hb5
     clear hb5
     go_wp2_with fail
     have zz:=aQ HBY.out (B A 0) (B A 0) (C ⟨#[]⟩) (D none 0 0)
     have zb:=aY w5 (w.heap.size+1+1) (B A 0) (B A 0) (C ⟨#[]⟩) (D none 0 0)
     obtain⟨t0,t1,t2,t3⟩:=ai zz
     have eP:(((w5.setCell ⟨w.heap.size+1+1,0,none⟩ (B A 0)).setCell ⟨w.heap.size+1+1,1,none⟩ (B A 0)).setCell ⟨w.heap.size+1+1,2,none⟩ (C ⟨#[]⟩)).setCell ⟨w.heap.size+1+1,3,none⟩ (D none 0 0)=bC w5 (w.heap.size+1+1) (B A 0) (B A 0) (C ⟨#[]⟩) (D none 0 0):=rfl
     rw[eP]
     clear eP
     generalize bC w5 (w.heap.size+1+1) (B A 0) (B A 0) (C ⟨#[]⟩) (D none 0 0)=W9 at zz zb t0 t1 t2 t3 ⊢
     simp at t0 t1 t2 t3
     exact bodyPost_ret (v:=G #[B A 0,B A 0,C ⟨#[]⟩,D none 0 0]) (by simp[results,Tryz.results33,go_sem,t0,t1,t2,t3]) rfl ⟨by rw[HRV.out];rfl,c5.trans (zb.mono (by omega))⟩
   | false=>
     go_wp2_with fail
     refine(cT.out _).mono ?_
     rintro e w5 ⟨rfl,k5⟩
     have hb5:=(k5.block _ (by omega)).trans hb6
     have c5:=af cw k5
     clear hb6
     obtain⟨x0,x1,x2,x3⟩:=ai hb5
     obtain⟨y0,y1,y2,y3⟩:=aq hb5
     simp at x0 x1 x2 x3
     have HBY:=aa hb5
     clear hb5
     go_wp2_with fail
     have zz:=aQ HBY.out (B A 1) (B A 1) (C ⟨#[]⟩) (D none 0 0)
     have zb:=aY w5 (w.heap.size+1+1) (B A 1) (B A 1) (C ⟨#[]⟩) (D none 0 0)
     obtain⟨t0,t1,t2,t3⟩:=ai zz
     have eP:(((w5.setCell ⟨w.heap.size+1+1,0,none⟩ (B A 1)).setCell ⟨w.heap.size+1+1,1,none⟩ (B A 1)).setCell ⟨w.heap.size+1+1,2,none⟩ (C ⟨#[]⟩)).setCell ⟨w.heap.size+1+1,3,none⟩ (D none 0 0)=bC w5 (w.heap.size+1+1) (B A 1) (B A 1) (C ⟨#[]⟩) (D none 0 0):=rfl
     rw[eP]
     clear eP
     generalize bC w5 (w.heap.size+1+1) (B A 1) (B A 1) (C ⟨#[]⟩) (D none 0 0)=W9 at zz zb t0 t1 t2 t3 ⊢
     simp at t0 t1 t2 t3
     exact bodyPost_ret (v:=G #[B A 1,B A 1,C ⟨#[]⟩,D none 0 0]) (by simp[results,Tryz.results33,go_sem,t0,t1,t2,t3]) rfl ⟨by rw[HRV.out];rfl,c5.trans (zb.mono (by omega))⟩
theorem nF:∀(N:Nat) (k n:Int) (s:ByteArray) (a:Option Addr) (l c:Nat) (L:List T) (k' n':Int) (s':ByteArray) (a':Option Addr) (l' c':Nat) (L':List T) (w:World),wtL L≤N→N≤1099511627776→wtL L'≤1099511627776→am w L a l→am w L' a' l' →
 Calls Tryz.prog 33 #[G #[B A k,B A n,C s,D a l c],G #[B A k',B A n',C s',D a' l' c']] w fun e w'=>e=F (eO (aU (.node k n s L) (.node k' n' s' L')))∧Below w.heap.size w w':=by
 intro N
 induction N using Nat.strongRecOn with
 | _ N ih=>
 intro k n s a l c L k' n' s' a' l' c' L' w hN hN2 hN' hL hL'
 by_cases h0:k=0∨k'=0
 ·have e:aU (.node k n s L) (.node k' n' s' L')=2:=by unfold aU;rw[if_pos h0]
  rw[e]
  exact np k n s a l c k' n' s' a' l' c' w h0
 ·by_cases h4:k=4∧k'=4
  ·have e:aU (.node k n s L) (.node k' n' s' L')=co L L':=by unfold aU;rw[if_neg h0,if_pos h4]
   rw[e]
   obtain⟨rfl,rfl⟩:=h4
   have hlen:=hL.length
   have hlen':=hL'.length
   have hb:=ki L
   by_cases hll:l=l'
   ·subst hll
    by_cases hz:l=0
    ·subst hz
     have e1:L = []:=List.length_eq_zero_iff.1 hlen.1.symm
     have e2:L' = []:=List.length_eq_zero_iff.1 hlen'.1.symm
     subst e1
     subst e2
     rw[gt]
     exact mh n s a c n' s' a' c' w
    ·obtain⟨b,off,_,rfl,hbb,_⟩:=hL.get (i:=0) (by omega)
     obtain⟨b',off',_,rfl,hbb',_⟩:=hL'.get (i:=0) (by omega)
     exact nw n s b off l c n' s' b' off' c' L L' w hL hL' (by omega) (fun kt nt st at' lt ct Lt ku nu su au' lu cu Lu W h1 h2 h3 h4 h5=>ih (wtL Lt) (by omega) kt nt st at' lt ct Lt ku nu su au' lu cu Lu W (H _) (by omega) (by omega) (h3.below h5 _ _ _) (h4.below h5 _ _ _))
   ·have e2:co L L'=0:=fo (by omega)
    rw[e2]
    exact oT n s a l c n' s' a' l' c' w hlen.2 hlen'.2 hll
  ·have e:aU (.node k n s L) (.node k' n' s' L')=if cY (.node k n s L) (.node k' n' s' L')=0 then 1 else 0:=by unfold aU;rw[if_neg h0,if_neg h4]
   rw[e]
   exact mg k n s a l c k' n' s' a' l' c' _ w h0 h4 (fun W kW=>iX (wtL L) k n s a l c L k' n' s' a' l' c' L' W (H _) (by omega) (by omega) (hL.below kW _ _ _) (hL'.below kW _ _ _))
end Go.Proofs.YtijjpoohhgapoaaGreatDoor
