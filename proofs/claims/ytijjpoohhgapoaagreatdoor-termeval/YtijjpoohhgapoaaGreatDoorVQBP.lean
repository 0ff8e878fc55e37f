import Derived.Test.YtijjpoohhgapoaaGreatDoorVQBO
namespace Go.Proofs.YtijjpoohhgapoaaGreatDoor
open Go.RowKit
set_option linter.unusedVariables false
set_option linter.unusedSimpArgs false
set_option maxHeartbeats 4000000
set_option maxRecDepth 100000
open Value renaming string → C, slice → D, int → G, agg → O, tuple → P, pointer → Q
open IntKind renaming i64 → F
open Obj renaming cells → H
open Nat renaming le_refl → I
open RowKit.Below renaming refl → J
open Ending renaming returned → K
mutual
theorem nN:∀t u:T,cY u t = - cY t u
 | .node k n s L,.node k' n' s' L'=>by
   rw[d7,d7,iG,iG,kO k k',kO n n',kP s.toList s'.toList,nO L L',iv,iv,iv]
theorem nO:∀L M:List T,dC M L = - dC L M
 | [],[]=>by unfold dC;rfl
 | [],_::_=>by unfold dC;rfl
 | _::_,[]=>by unfold dC;rfl
 | t::ts,u::us=>by rw[ff,ff,nN t u,nO ts us,iv]
end
def fN:T→Int
 | .node _ n _ _=>n
def wa:T→Int
 | .node k _ _ _=>k
theorem tz (x y:T) (h:wa (cy x y)≠0):fN (cy x y)+fN (cy y x)+fN (cq x y)=1∧fN (cG (cy y x))=fN (cy x y)+fN (cq x y)∧(0≤fN (cy x y)∧fN (cy x y)≤1)∧(0≤fN (cy y x)∧fN (cy y x)≤1)∧(0≤fN (cq x y)∧fN (cq x y)≤1):=by
 obtain⟨k,n,s,L⟩:=x
 obtain⟨k',n',s',L'⟩:=y
 have hk:k=k'∧(k=2∨k=3):=by
  by_cases hk:k=k'∧(k=2∨k=3)
  ·exact hk
  ·exfalso
   apply h
   show(bz (.node k n s L) (.node k' n' s' L')).1=0
   simp only[bz]
   rw[if_neg hk]
 obtain⟨rfl,hk⟩:=hk
 have hneg:=nN (.node k n s L) (.node k n' s' L')
 have e1:bz (.node k n s L) (.node k n' s' L')=(1,if cY (.node k n s L) (.node k n' s' L')<0 then 1 else 0):=by simp[bz,hk]
 have e2:bz (.node k n' s' L') (.node k n s L)=(1,if cY (.node k n' s' L') (.node k n s L)<0 then 1 else 0):=by simp[bz,hk]
 have e3:aU (.node k n s L) (.node k n' s' L')=if cY (.node k n s L) (.node k n' s' L')=0 then 1 else 0:=by
  unfold aU
  rw[if_neg (by omega),if_neg (by omega)]
 have n1:fN (cy (.node k n s L) (.node k n' s' L'))=if cY (.node k n s L) (.node k n' s' L')<0 then 1 else 0:=by
  show(bz _ _).2=_
  rw[e1]
 have n2:fN (cy (.node k n' s' L') (.node k n s L))=if cY (.node k n' s' L') (.node k n s L)<0 then 1 else 0:=by
  show(bz _ _).2=_
  rw[e2]
 have n3:fN (cq (.node k n s L) (.node k n' s' L'))=if cY (.node k n s L) (.node k n' s' L')=0 then 1 else 0:=by
  show(cI _).2=_
  rw[e3]
  unfold cI
  by_cases h0:cY (.node k n s L) (.node k n' s' L')=0
  ·simp[h0]
  ·simp[h0]
 have n4:fN (cG (cy (.node k n' s' L') (.node k n s L)))=if cY (.node k n' s' L') (.node k n s L)<0 then 0 else 1:=by
  unfold cy
  rw[e2]
  by_cases h0:cY (.node k n' s' L') (.node k n s L)<0
  ·simp[h0,cG,ei,fN]
  ·simp[h0,cG,ei,fN]
 rw[n1,n2,n3,n4,hneg]
 generalize cY (.node k n s L) (.node k n' s' L')=o
 refine⟨?_,?_,?_,?_,?_⟩<;>(repeat' split)<;>omega
def thK (pb:Nat):ThR:=⟨false,1,⟨#[]⟩,some ⟨pb,0,none⟩,1,1⟩
def qK:List (ByteArray × Th):=[(⟨#[97]⟩,⟨false,1,⟨#[]⟩,[⟨⟨#[110]⟩,.node 2 5 ⟨#[]⟩ []⟩]⟩)]
theorem vr (lb pb:Nat):bl (et lb pb) fO [⟨#[97]⟩] [1] []=(0,[(⟨#[97]⟩,thK pb)]):=rfl
theorem rF (N:List Nd) (E:List Ed):bl N E [] [] []=(0,[]):=rfl
theorem wh:aO qK ⟨#[97]⟩=some ⟨false,1,⟨#[]⟩,[⟨⟨#[110]⟩,.node 2 5 ⟨#[]⟩ []⟩]⟩:=rfl
theorem vY:eK (aO qK):=by
 intro s x hx
 unfold aO at hx
 cases hf:qK.find? (fun p=>s==p.1) with
 | none=>rw[hf] at hx;cases hx
 | some y=>
   rw[hf] at hx
   have hm:=List.mem_of_find?_eq_some hf
   have:y=(⟨#[97]⟩,⟨false,1,⟨#[]⟩,[⟨⟨#[110]⟩,.node 2 5 ⟨#[]⟩ []⟩]⟩):=List.mem_singleton.1 hm
   subst this
   injection hx with hx
   subst hx
   refine⟨⟨by decide,by decide⟩,by decide,fun p hp=>?_⟩
   rw[List.mem_singleton.1 hp]
   exact .int 6 5 (by decide) (by decide)
theorem uJ:eK (aO []):=fun s x hx=>by cases hx
theorem uG {w:World} {lb pb nb eb:Nat} (h:bZ w lb pb nb eb):aA (fQ w) [(⟨#[97]⟩,thK pb)] qK:=by
 refine⟨rfl,fun i p x hp hx=>?_⟩
 cases i with
 | zero=>
   simp at hp
   simp[qK] at hx
   subst hp hx
   refine⟨rfl,[prK],some ⟨pb,0,none⟩,1,1,rfl,by decide,h.props,rfl,fun i p x hp hx=>?_⟩
   cases i with
   | zero=>
     simp at hp hx
     subst hp hx
     exact⟨rfl,by decide,by decide,I _,[],rfl,df⟩
   | succ i=>simp at hp
 | succ i=>simp at hp
abbrev tmK:Tm:=.node 3 aw ⟨#[110]⟩ [.node 2 aw ⟨#[97]⟩ []]
theorem tq:aS (aO qK) 6 tmK:=by
 refine pZ.2 ⟨rfl,by decide,_,rfl,rfl,?_⟩
 have hb:cW ⟨#[97]⟩=true:=by
  unfold cW bv
  rw[ByteArray.toList_eq]
  decide
 exact mo.2 ⟨rfl,rfl,hb,rfl⟩
theorem ve:aI (aO qK) 6 tmK = .node 2 5 ⟨#[]⟩ []:=by
 show cR ⟨#[110]⟩ ((aO qK ⟨#[97]⟩).getD Th.zero)=_
 rw[wh]
 show cR ⟨#[110]⟩ ⟨false,1,⟨#[]⟩,[⟨⟨#[110]⟩,.node 2 5 ⟨#[]⟩ []⟩]⟩=_
 unfold cR
 rw[List.find?_cons_of_pos (by simp)]
abbrev tmO:Tm:=.node 4 aw ⟨#[111,114]⟩ [.node 1 aw ⟨#[]⟩ [],.node 1 (.node 1 1 ⟨#[]⟩ []) ⟨#[]⟩ []]
theorem tn:aS (aO []) 6 tmO:=by
 refine mn.2 ⟨rfl,by decide,fun x hx=>?_,7,by decide,by decide,fun h=>absurd h (by decide),fun h=>absurd h (by decide)⟩
 rcases List.mem_cons.1 hx with rfl | hx
 ·exact mp.2 ⟨i5.2 rfl,rfl,by decide,.null 6⟩
 ·rw[List.mem_singleton.1 hx]
  exact mp.2 ⟨i5.2 rfl,rfl,by decide,.bool 6 1 (.inr rfl)⟩
theorem vd:aI (aO []) 6 tmO = .node 1 1 ⟨#[]⟩ []:=rfl
theorem oe {B:Nat} (w0 w:World) (lb pb nb eb:Nat) (sa:Option Addr) (sc:Nat) (ia:Option Addr) (ic:Nat) (a:Option Addr) (c:Nat) (hw:Below w0.heap.size w0 w) (hB:B≤w0.heap.size) (hT:bD B w0) (hk:bZ w0 lb pb nb eb) (hS:cD w0 [⟨#[97]⟩] sa 1) (hI:dH w0 [1] ia 1) (ht:bd w0 3 0 0 ⟨#[]⟩ none 0 0 ⟨#[110]⟩ a 1 c [] [.node 2 aw ⟨#[97]⟩ []]) :
  Calls Tryz.prog 4 #[O #[D (some ⟨nb,0,none⟩) 2 2,D (some ⟨eb,0,none⟩) 1 1,G F 4],D sa 1 sc,D ia 1 ic,O #[G F 3,G F 0,G F 0,C ⟨#[]⟩,D none 0 0,C ⟨#[110]⟩,D a 1 c]] w fun e w'=>(∃a c,e=K (P #[vC 2 5 ⟨#[]⟩ a 0 c,G F 0]))∧Below w.heap.size w w':=by
 have main:=kK (B:=B) w0 w (some ⟨nb,0,none⟩) 2 2 (some ⟨eb,0,none⟩) 1 1 4 sa 1 sc ia 1 ic 3 0 0 ⟨#[]⟩ none 0 0 ⟨#[110]⟩ a 1 c [] [.node 2 aw ⟨#[97]⟩ []] 0 (bl (et lb pb) fO [⟨#[97]⟩] [1] []) qK hw hB hT ht
  (by unfold InM gr InM gr aw InT InL;exact⟨⟨⟨by decide,by decide⟩,trivial⟩,⟨⟨⟨by decide,by decide⟩,trivial⟩,trivial⟩,trivial⟩)
  (fun W k=>qt (hk.below k))
  (fun _ _ _ W k=>iK w0 W (et lb pb) fO (some ⟨nb,0,none⟩) 2 2 (some ⟨eb,0,none⟩) 1 1 4 [⟨#[97]⟩] sa 1 sc [1] ia 1 ic k hk.nodes hk.edges (by decide) (by decide) (rU lb pb) rV hS hI rfl)
  (fun _ _=>by rw[vr];exact uG hk) (fun _ _=>vY) (by decide)
 refine dm main fun e w' h=>⟨?_,h.2⟩
 obtain⟨er,k,n,s,a',l',c',e1,e2,e3⟩:=h.1
 have ok:(0:Int)=0∧1=1∧1≤30∧(bl (et lb pb) fO [⟨#[97]⟩] [1] []).1=0∧aS (aO qK) 6 (.node 3 (.node 0 0 ⟨#[]⟩ []) ⟨#[110]⟩ [.node 2 aw ⟨#[97]⟩ []]):=⟨rfl,rfl,by decide,rfl,tq⟩
 have h0:=e2.2 ok
 obtain⟨L,t1,_,_,t2⟩:=e3 ok
 rw[show aI (aO qK) 6 (.node 3 (.node 0 0 ⟨#[]⟩ []) ⟨#[110]⟩ [.node 2 aw ⟨#[97]⟩ []]) = .node 2 5 ⟨#[]⟩ [] from ve] at t1
 injection t1 with t1 t3 t4 t5
 subst t1 t3 t4 t5 h0
 have hl:l'=0:=by unfold ap at t2;exact t2
 subst hl
 exact⟨a',c',e1⟩
theorem od {B:Nat} (w0 w:World) (lb pb nb eb:Nat) (a:Option Addr) (c:Nat) (hw:Below w0.heap.size w0 w) (hB:B≤w0.heap.size) (hT:bD B w0) (hk:bZ w0 lb pb nb eb) (ht:bd w0 4 0 0 ⟨#[]⟩ none 0 0 ⟨#[111,114]⟩ a 2 c [] [.node 1 aw ⟨#[]⟩ [],.node 1 (.node 1 1 ⟨#[]⟩ []) ⟨#[]⟩ []]) :
  Calls Tryz.prog 4 #[O #[D (some ⟨nb,0,none⟩) 2 2,D (some ⟨eb,0,none⟩) 1 1,G F 4],D none 0 0,D none 0 0,O #[G F 4,G F 0,G F 0,C ⟨#[]⟩,D none 0 0,C ⟨#[111,114]⟩,D a 2 c]] w fun e w'=>(∃a c,e=K (P #[vC 1 1 ⟨#[]⟩ a 0 c,G F 0]))∧Below w.heap.size w w':=by
 have hS:cD w0 [] none 0:=lw w0 none
 have hI:dH w0 [] none 0:=⟨rfl,by omega,fun h=>absurd h (Nat.lt_irrefl _)⟩
 have main:=kK (B:=B) w0 w (some ⟨nb,0,none⟩) 2 2 (some ⟨eb,0,none⟩) 1 1 4 none 0 0 none 0 0 4 0 0 ⟨#[]⟩ none 0 0 ⟨#[111,114]⟩ a 2 c [] [.node 1 aw ⟨#[]⟩ [],.node 1 (.node 1 1 ⟨#[]⟩ []) ⟨#[]⟩ []] 0 (bl (et lb pb) fO [] [] []) [] hw hB hT ht
  (by simp[InM,gr,aw,InT,InL])
  (fun W k=>qt (hk.below k))
  (fun _ _ _ W k=>iK w0 W (et lb pb) fO (some ⟨nb,0,none⟩) 2 2 (some ⟨eb,0,none⟩) 1 1 4 [] none 0 0 [] none 0 0 k hk.nodes hk.edges (by decide) (by decide) (rU lb pb) rV hS hI rfl)
  (fun _ _=>by rw[rF];exact aA.nil) (fun _ _=>uJ) (by decide)
 refine dm main fun e w' h=>⟨?_,h.2⟩
 obtain⟨er,k,n,s,a',l',c',e1,e2,e3⟩:=h.1
 have ok:(0:Int)=0∧0=0∧0≤30∧(bl (et lb pb) fO [] [] []).1=0∧aS (aO []) 6 (.node 4 (.node 0 0 ⟨#[]⟩ []) ⟨#[111,114]⟩ [.node 1 aw ⟨#[]⟩ [],.node 1 (.node 1 1 ⟨#[]⟩ []) ⟨#[]⟩ []]):=⟨rfl,rfl,by decide,rfl,tn⟩
 have h0:=e2.2 ok
 obtain⟨L,t1,_,_,t2⟩:=e3 ok
 rw[show aI (aO []) 6 (.node 4 (.node 0 0 ⟨#[]⟩ []) ⟨#[111,114]⟩ [.node 1 aw ⟨#[]⟩ [],.node 1 (.node 1 1 ⟨#[]⟩ []) ⟨#[]⟩ []]) = .node 1 1 ⟨#[]⟩ [] from vd] at t1
 injection t1 with t1 t3 t4 t5
 subst t1 t3 t4 t5 h0
 have hl:l'=0:=by unfold ap at t2;exact t2
 subst hl
 exact⟨a',c',e1⟩

theorem ls (w:World):Calls Tryz.prog 24 #[G F 1] w fun e w'=>e=K (vC 1 1 ⟨#[]⟩ none 0 0)∧Below w.heap.size w w':=by
 go_enter Tryz.func24,Tryz.ntmps24
 go_wp2_with fail
 have hbb:Below w.heap.size w (w.alloc (H #[G F 1,G F 1,C ⟨#[]⟩,D none 0 0] 30)):=(J _ _).alloc (I _) _
 exact bodyPost_ret (v:=O #[G F 1,G F 1,C ⟨#[]⟩,D none 0 0]) (by simp[results,Tryz.results24,go_sem]) rfl ⟨rfl,hbb⟩
theorem lB (k n:Int) (a:Option Addr) (c:Nat) (w:World):Calls Tryz.prog 11 #[vC k n ⟨#[]⟩ a 0 c,vC k n ⟨#[]⟩ none 0 0] w fun e w'=>e=K (.bool true)∧Below w.heap.size w w':=
 iU k n ⟨#[]⟩ [] a 0 c none 0 0 w (by unfold wtL;decide) (by unfold am;rfl) (by unfold am;rfl)
theorem lG:bv ⟨#[109,97,116,99,104]⟩=true:=by
 unfold bv
 rw[ByteArray.toList_eq]
 decide
theorem pf:cW ⟨#[109,97,116,99,104]⟩=false:=by
 unfold cW
 rw[lG]
 simp
abbrev S14:Obj:=H #[G F 1,G F 0,G F 0,C ⟨#[]⟩,D none 0 0,C ⟨#[]⟩,D none 0 0,G F 1,G F 1,G F 1,C ⟨#[]⟩,D none 0 0,C ⟨#[]⟩,D none 0 0] 33
abbrev T7 (g:Nat):Obj:=H #[G F 4,G F 0,G F 0,C ⟨#[]⟩,D none 0 0,C ⟨#[111,114]⟩,D (some ⟨g,0,none⟩) 2 2] 33
theorem rM {w:World} {b:Nat} {s:ByteArray} {t:TypeId} (h:w.heap[b]? = some (H #[C s] t (0,0))) (hs:s.size≤9223372036854775807):cD w [s] (some ⟨b,0,none⟩) 1:=by
 refine⟨rfl,by omega,fun _=>⟨b,0,rfl,lt_block' h,fun i x hx=>?_⟩⟩
 cases i with
 | zero=>simp at hx;subst hx;exact⟨hs,ac h 0⟩
 | succ i=>simp at hx
theorem sA {w:World} {b:Nat} {n:Int} {t:TypeId} (h:w.heap[b]? = some (H #[G F n] t (0,0))):dH w [n] (some ⟨b,0,none⟩) 1:=by
 refine⟨rfl,by omega,fun _=>⟨b,0,rfl,lt_block' h,fun i x hx=>?_⟩⟩
 cases i with
 | zero=>simp at hx;subst hx;exact ac h 0
 | succ i=>simp at hx
theorem i7 {w:World} {g off:Nat} {k vk vn:Int} {nmx:ByteArray} (hn:nmx.size≤9223372036854775807) (h:∀j v,(mC k vk vn ⟨#[]⟩ none 0 0 nmx none 0 0)[j]? = some v→w.cell? ⟨g,off+j,none⟩=some v):ek w (.node k (.node vk vn ⟨#[]⟩ []) nmx []) g off:=
 bd.lies (Lv:=[]) (A:=[]) ⟨hn,by decide,I _,by unfold am;rfl,I _,by unfold aW;rfl⟩ h
theorem jk {B:Nat} (w:World) (hB:B≤w.heap.size) (hT:bD B w):Calls Tryz.prog 9 #[] w fun e w'=>e=K (.bool true)∧Below w.heap.size w w':=by
 have HT:=aa hT
 have HBB:=aa hB
 clear hT hB
 go_enter Tryz.func9,Tryz.ntmps9
 go_wp2_with fail
 refine(ls _).mono ?_
 rintro e u1 ⟨rfl,k1⟩
 have HK1:=aa k1
 clear k1
 go_wp2_with fail
 refine(ja _).mono ?_
 have H14:Hid (((u1.alloc S14).alloc (T7 u1.heap.size)).heap[u1.heap.size]? = some (H #[G F 1,G F 0,G F 0,C ⟨#[]⟩,D none 0 0,C ⟨#[]⟩,D none 0 0,G F 1,G F 1,G F 1,C ⟨#[]⟩,D none 0 0,C ⟨#[]⟩,D none 0 0] 33 (0,0))):=by
  have hb:Below (u1.heap.size+1) (u1.alloc S14) ((u1.alloc S14).alloc (T7 u1.heap.size)):=(J _ _).alloc (by simp) _
  exact(hb.block u1.heap.size (by omega)).trans (ae u1 S14)
 have H7:=aa (ay u1 S14 (T7 u1.heap.size))
 have HZ:Hid (((u1.alloc S14).alloc (T7 u1.heap.size)).heap.size=u1.heap.size+2):=by show _=_;simp
 have HX:Hid (Below w.heap.size w ((u1.alloc S14).alloc (T7 u1.heap.size))):=(HK1.out.alloc HK1.out.size _).alloc (by have:=HK1.out.size;simp;omega) _
 generalize (u1.alloc S14).alloc (T7 u1.heap.size)=X at H14 H7 HZ HX ⊢
 rintro e u2 ⟨⟨lb,pb,nb,eb,rfl,hk⟩,k2⟩
 have HKN:=aa hk
 have HK2:=aa (af HX.out k2)
 have H14b:=aa ((k2.block u1.heap.size (by rw[HZ.out];omega)).trans H14.out)
 have H7b:=aa ((k2.block (u1.heap.size+1) (by rw[HZ.out];omega)).trans H7.out)
 clear hk k2 H14 H7 HX HZ
 have hz:(((u2.alloc (H #[C ⟨#[97]⟩] 9)).alloc (H #[G F 1] 3)).alloc (H #[G F 2,G F 0,G F 0,C ⟨#[]⟩,D none 0 0,C ⟨#[97]⟩,D none 0 0] 33)).heap.size=u2.heap.size+3:=by simp
 have y2:(((u2.alloc (H #[C ⟨#[97]⟩] 9)).alloc (H #[G F 1] 3)).alloc (H #[G F 2,G F 0,G F 0,C ⟨#[]⟩,D none 0 0,C ⟨#[97]⟩,D none 0 0] 33)).heap[u2.heap.size+2]? = some (H #[G F 2,G F 0,G F 0,C ⟨#[]⟩,D none 0 0,C ⟨#[97]⟩,D none 0 0] 33 (0,0)):=by
  have e:((u2.alloc (H #[C ⟨#[97]⟩] 9)).alloc (H #[G F 1] 3)).heap.size=u2.heap.size+2:=by simp
  have:=ae ((u2.alloc (H #[C ⟨#[97]⟩] 9)).alloc (H #[G F 1] 3)) (H #[G F 2,G F 0,G F 0,C ⟨#[]⟩,D none 0 0,C ⟨#[97]⟩,D none 0 0] 33)
  rw[e] at this
  exact this
 have y1:(((u2.alloc (H #[C ⟨#[97]⟩] 9)).alloc (H #[G F 1] 3)).alloc (H #[G F 2,G F 0,G F 0,C ⟨#[]⟩,D none 0 0,C ⟨#[97]⟩,D none 0 0] 33)).heap[u2.heap.size+1]? = some (H #[G F 1] 3 (0,0)):=by
  have hb:Below (u2.heap.size+2) ((u2.alloc (H #[C ⟨#[97]⟩] 9)).alloc (H #[G F 1] 3)) (((u2.alloc (H #[C ⟨#[97]⟩] 9)).alloc (H #[G F 1] 3)).alloc (H #[G F 2,G F 0,G F 0,C ⟨#[]⟩,D none 0 0,C ⟨#[97]⟩,D none 0 0] 33)):=(J _ _).alloc (by simp) _
  exact(hb.block _ (by omega)).trans (ay u2 _ _)
 have y0:(((u2.alloc (H #[C ⟨#[97]⟩] 9)).alloc (H #[G F 1] 3)).alloc (H #[G F 2,G F 0,G F 0,C ⟨#[]⟩,D none 0 0,C ⟨#[97]⟩,D none 0 0] 33)).heap[u2.heap.size]? = some (H #[C ⟨#[97]⟩] 9 (0,0)):=by
  have hb:Below (u2.heap.size+1) (u2.alloc (H #[C ⟨#[97]⟩] 9)) (((u2.alloc (H #[C ⟨#[97]⟩] 9)).alloc (H #[G F 1] 3)).alloc (H #[G F 2,G F 0,G F 0,C ⟨#[]⟩,D none 0 0,C ⟨#[97]⟩,D none 0 0] 33)):=((J _ _).alloc (by simp) _).alloc (by simp) _
  exact(hb.block _ (by omega)).trans (ae u2 _)
 have HY:Hid (Below u2.heap.size u2 (((u2.alloc (H #[C ⟨#[97]⟩] 9)).alloc (H #[G F 1] 3)).alloc (H #[G F 2,G F 0,G F 0,C ⟨#[]⟩,D none 0 0,C ⟨#[97]⟩,D none 0 0] 33))):=(((J _ _).alloc (I _) _).alloc (by simp) _).alloc (by simp;omega) _
 have HEK:Hid (Calls Tryz.prog 4 #[O #[D (some ⟨nb,0,none⟩) 2 2,D (some ⟨eb,0,none⟩) 1 1,G F 4],D (some ⟨u2.heap.size,0,none⟩) 1 1,D (some ⟨u2.heap.size+1,0,none⟩) 1 1,O #[G F 3,G F 0,G F 0,C ⟨#[]⟩,D none 0 0,C ⟨#[110]⟩,D (some ⟨u2.heap.size+1+1,0,none⟩) 1 1]] (((u2.alloc (H #[C ⟨#[97]⟩] 9)).alloc (H #[G F 1] 3)).alloc (H #[G F 2,G F 0,G F 0,C ⟨#[]⟩,D none 0 0,C ⟨#[97]⟩,D none 0 0] 33)) fun e w'=>(∃a c,e=K (P #[vC 2 5 ⟨#[]⟩ a 0 c,G F 0]))∧Below (((u2.alloc (H #[C ⟨#[97]⟩] 9)).alloc (H #[G F 1] 3)).alloc (H #[G F 2,G F 0,G F 0,C ⟨#[]⟩,D none 0 0,C ⟨#[97]⟩,D none 0 0] 33)).heap.size (((u2.alloc (H #[C ⟨#[97]⟩] 9)).alloc (H #[G F 1] 3)).alloc (H #[G F 2,G F 0,G F 0,C ⟨#[]⟩,D none 0 0,C ⟨#[97]⟩,D none 0 0] 33)) w'):=by
  refine oe (B:=B) _ _ lb pb nb eb _ 1 _ 1 _ 1 (J _ _) (Nat.le_trans HBB.out (Nat.le_trans HK2.out.size HY.out.size)) (HT.out.below ((HK2.out.trans (HY.out.mono HK2.out.size)).mono HBB.out)) (HKN.out.below HY.out) (rM y0 (by decide)) (sA y1) ⟨by decide,by decide,I _,by unfold am;rfl,I _,?_⟩
  exact sS (lt_block' y2) (i7 (by decide) (fun j v hv=>by
   rw[Nat.zero_add]
   exact(ac y2 j).trans (by simpa using hv)))
 clear y0 y1 y2 hz
 go_wp2_with fail
 refine HEK.out.mono ?_
 generalize ((u2.alloc (H #[C ⟨#[97]⟩] 9)).alloc (H #[G F 1] 3)).alloc (H #[G F 2,G F 0,G F 0,C ⟨#[]⟩,D none 0 0,C ⟨#[97]⟩,D none 0 0] 33)=YY at HY HEK ⊢
 rintro e u3 ⟨⟨va,vc,rfl⟩,k3⟩
 have HK3:=aa (af (af HK2.out HY.out) k3)
 have H14c:=aa ((k3.block u1.heap.size (Nat.lt_of_lt_of_le (lt_block' H14b.out) HY.out.size)).trans ((HY.out.block _ (lt_block' H14b.out)).trans H14b.out))
 have H7c:=aa ((k3.block (u1.heap.size+1) (Nat.lt_of_lt_of_le (lt_block' H7b.out) HY.out.size)).trans ((HY.out.block _ (lt_block' H7b.out)).trans H7b.out))
 clear k3 HEK HY H14b H7b HKN
 have hzX:(u3.alloc (H #[G F 2,G F 5,C ⟨#[]⟩,D va 0 vc] 30)).heap.size=u3.heap.size+1:=by simp
 have HZX:=aa hzX
 have HBX:Hid (Below u3.heap.size u3 (u3.alloc (H #[G F 2,G F 5,C ⟨#[]⟩,D va 0 vc] 30))):=(J _ _).alloc (I _) _
 have HVX:=aa (ae u3 (H #[G F 2,G F 5,C ⟨#[]⟩,D va 0 vc] 30))
 clear hzX
 go_upto_region 3 with fail
 generalize u3.alloc (H #[G F 2,G F 5,C ⟨#[]⟩,D va 0 vc] 30)=WX at HZX HBX HVX ⊢
 have HKX:=aa (af HK3.out HBX.out)
 have H7X:=aa ((HBX.out.block _ (lt_block' H7c.out)).trans H7c.out)
 have H14X:=aa ((HBX.out.block _ (lt_block' H14c.out)).trans H14c.out)
 have HS:Hid (∀W',Below WX.heap.size WX W'→(W'.cell? ⟨u1.heap.size+1,0,none⟩=some (G F 4)∧W'.cell? ⟨u1.heap.size+1,1,none⟩=some (G F 0)∧W'.cell? ⟨u1.heap.size+1,2,none⟩=some (G F 0)∧W'.cell? ⟨u1.heap.size+1,3,none⟩=some (C ⟨#[]⟩)∧W'.cell? ⟨u1.heap.size+1,4,none⟩=some (D none 0 0)∧W'.cell? ⟨u1.heap.size+1,5,none⟩=some (C ⟨#[111,114]⟩)∧W'.cell? ⟨u1.heap.size+1,6,none⟩=some (D (some ⟨u1.heap.size,0,none⟩) 2 2))):=fun W' kk=>by
  have q:=(kk.block _ (lt_block' H7X.out)).trans H7X.out
  exact⟨ac q 0,ac q 1,ac q 2,ac q 3,ac q 4,ac q 5,ac q 6⟩
 have HST:Hid (∀u p,Below WX.heap.size WX u→WX.heap.size≤p→∀v0 v1 v2 v3:Value,(((((u.setCell ⟨p,0,none⟩ v0).setCell ⟨p,1,none⟩ v1).setCell ⟨p,2,none⟩ v2).setCell ⟨p,3,none⟩ v3).cell? ⟨u1.heap.size+1,0,none⟩=some (G F 4)∧((((u.setCell ⟨p,0,none⟩ v0).setCell ⟨p,1,none⟩ v1).setCell ⟨p,2,none⟩ v2).setCell ⟨p,3,none⟩ v3).cell? ⟨u1.heap.size+1,1,none⟩=some (G F 0)∧((((u.setCell ⟨p,0,none⟩ v0).setCell ⟨p,1,none⟩ v1).setCell ⟨p,2,none⟩ v2).setCell ⟨p,3,none⟩ v3).cell? ⟨u1.heap.size+1,2,none⟩=some (G F 0)∧((((u.setCell ⟨p,0,none⟩ v0).setCell ⟨p,1,none⟩ v1).setCell ⟨p,2,none⟩ v2).setCell ⟨p,3,none⟩ v3).cell? ⟨u1.heap.size+1,3,none⟩=some (C ⟨#[]⟩)∧((((u.setCell ⟨p,0,none⟩ v0).setCell ⟨p,1,none⟩ v1).setCell ⟨p,2,none⟩ v2).setCell ⟨p,3,none⟩ v3).cell? ⟨u1.heap.size+1,4,none⟩=some (D none 0 0)∧((((u.setCell ⟨p,0,none⟩ v0).setCell ⟨p,1,none⟩ v1).setCell ⟨p,2,none⟩ v2).setCell ⟨p,3,none⟩ v3).cell? ⟨u1.heap.size+1,5,none⟩=some (C ⟨#[111,114]⟩)∧((((u.setCell ⟨p,0,none⟩ v0).setCell ⟨p,1,none⟩ v1).setCell ⟨p,2,none⟩ v2).setCell ⟨p,3,none⟩ v3).cell? ⟨u1.heap.size+1,6,none⟩=some (D (some ⟨u1.heap.size,0,none⟩) 2 2))):=fun u p kk hp v0 v1 v2 v3=>HS.out _ ((((kk.setCell (p:=⟨p,0,none⟩) hp _).setCell (p:=⟨p,1,none⟩) hp _).setCell (p:=⟨p,2,none⟩) hp _).setCell (p:=⟨p,3,none⟩) hp _)
 have HEO:Hid (∀(W:World) (lb pb nb eb:Nat),Below WX.heap.size WX W→bZ W lb pb nb eb→Calls Tryz.prog 4 #[O #[D (some ⟨nb,0,none⟩) 2 2,D (some ⟨eb,0,none⟩) 1 1,G F 4],D none 0 0,D none 0 0,O #[G F 4,G F 0,G F 0,C ⟨#[]⟩,D none 0 0,C ⟨#[111,114]⟩,D (some ⟨u1.heap.size,0,none⟩) 2 2]] W fun e w'=>(∃a c,e=K (P #[vC 1 1 ⟨#[]⟩ a 0 c,G F 0]))∧Below W.heap.size W w'):=fun W lb pb nb eb k hk=>by
  have q:=(k.block _ (lt_block' H14X.out)).trans H14X.out
  have hww:Below w.heap.size w W:=af HKX.out k
  refine od (B:=B) W W lb pb nb eb _ 2 (J _ _) (Nat.le_trans HBB.out hww.size) (HT.out.below (hww.mono HBB.out)) hk ⟨by decide,by decide,I _,by unfold am;rfl,I _,?_⟩
  exact sR (lt_block' q) (i7 (k:=1) (vk:=0) (vn:=0) (nmx:=⟨#[]⟩) (by decide) (fun j v hv=>by
   match j,hv with
   | 0,hv | 1,hv | 2,hv | 3,hv | 4,hv | 5,hv | 6,hv=>exact(ac q _).trans (by simpa using hv)
   | j+7,hv=>simp at hv)) (i7 (k:=1) (vk:=1) (vn:=1) (nmx:=⟨#[]⟩) (by decide) (fun j v hv=>by
   match j,hv with
   | 0,hv | 1,hv | 2,hv | 3,hv | 4,hv | 5,hv | 6,hv=>exact(ac q _).trans (by simpa using hv)
   | j+7,hv=>simp at hv))
 have D0:Below WX.heap.size WX WX.drew:=(J _ _).drew
 obtain⟨s0,s1,s2,s3,s4,s5,s6⟩:=HS.out WX (J _ _)
 have hlt7:u1.heap.size+1<WX.heap.size:=lt_block' H7X.out
 go_cut [4,5] (fun s4 s5 wx=>∃p a c,s4=Q (some ⟨p,0,none⟩)∧s5=G F 0∧wx.heap[p]? = some (H #[G F 1,G F 1,C ⟨#[]⟩,D a 0 c] 30 (0,0))∧Below WX.heap.size WX wx)
 case first=>
  go_region_held3 (fun W'=>(W'.cell? ⟨u1.heap.size+1,0,none⟩=some (G F 4)∧W'.cell? ⟨u1.heap.size+1,1,none⟩=some (G F 0)∧W'.cell? ⟨u1.heap.size+1,2,none⟩=some (G F 0)∧W'.cell? ⟨u1.heap.size+1,3,none⟩=some (C ⟨#[]⟩)∧W'.cell? ⟨u1.heap.size+1,4,none⟩=some (D none 0 0)∧W'.cell? ⟨u1.heap.size+1,5,none⟩=some (C ⟨#[111,114]⟩)∧W'.cell? ⟨u1.heap.size+1,6,none⟩=some (D (some ⟨u1.heap.size,0,none⟩) 2 2)))
   (first
     | with_reducible exact HS.out _ k5
     | with_reducible exact HS.out _ k4
     | with_reducible exact HS.out _ D0
     | with_reducible exact HS.out _ (k5.alloc k5.size _)
     | with_reducible exact HS.out _ (k4.alloc k4.size _)
     | with_reducible exact HS.out _ (D0.alloc (I _) _)
     | with_reducible exact HST.out _ _ k5 (I _) _ _ _ _
     | with_reducible exact HST.out _ _ k5 k4.size _ _ _ _
     | exact⟨s0,s1,s2,s3,s4,s5,s6⟩
     | go_keep)
   (first
     | (go_at_call 4;go_fit (HEO.out u4 _ _ _ _ k4 hk4);rintro e u5 ⟨⟨oa,oc,rfl⟩,h5⟩;have k5:Below WX.heap.size WX u5:=k4.trans (h5.mono k4.size);try (have hq5:u5.heap[WX.heap.size]? = some (H #[G F 0,G F 0,C ⟨#[]⟩,D none 0 0] 30 (0,0)):=(h5.block WX.heap.size (lt_block' hq)).trans hq;have r0:=ac hq5 0;have r1:=ac hq5 1;have r2:=ac hq5 2;have r3:=ac hq5 3;have f0:=aj hq5 0;have f1:=aj hq5 1;have f2:=aj hq5 2;have f3:=aj hq5 3;simp at r0 r1 r2 r3;have hsz5:WX.heap.size<u5.heap.size:=lt_block' hq5))
     | (go_at_call 4;go_fit (HEO.out (u4.alloc (H #[G F 0,G F 0,C ⟨#[]⟩,D none 0 0] 30)) _ _ _ _ (k4.alloc k4.size _) (hk4.below ((J _ _).alloc (I _) _)));rintro e u5 ⟨⟨oa,oc,rfl⟩,h5⟩;have k5:Below WX.heap.size WX u5:=(k4.alloc k4.size _).trans (h5.mono (by have:=k4.size;simp;omega));have hp5:u5.heap[u4.heap.size]? = some (H #[G F 0,G F 0,C ⟨#[]⟩,D none 0 0] 30 (0,0)):=(h5.block u4.heap.size (by simp)).trans (ae u4 (H #[G F 0,G F 0,C ⟨#[]⟩,D none 0 0] 30));have r0:=ac hp5 0;have r1:=ac hp5 1;have r2:=ac hp5 2;have r3:=ac hp5 3;have f0:=aj hp5 0;have f1:=aj hp5 1;have f2:=aj hp5 2;have f3:=aj hp5 3;simp at r0 r1 r2 r3;have hsz5:u4.heap.size<u5.heap.size:=lt_block' hp5)
     | (go_at_call 25;go_fit (ja WX.drew);rintro e u4 ⟨⟨lb4,pb4,nb4,eb4,rfl,hk4⟩,h4⟩;have k4:Below WX.heap.size WX u4:=D0.trans h4)
     | (go_at_call 25;go_fit (ja (WX.drew.alloc (H #[G F 0,G F 0,C ⟨#[]⟩,D none 0 0] 30)));rintro e u4 ⟨⟨lb4,pb4,nb4,eb4,rfl,hk4⟩,h4⟩;have k4:Below WX.heap.size WX u4:=(D0.alloc (I _) _).trans (h4.mono (by simp));have hq:u4.heap[WX.heap.size]? = some (H #[G F 0,G F 0,C ⟨#[]⟩,D none 0 0] 30 (0,0)):=(h4.block WX.heap.size (by simp)).trans (ae WX.drew (H #[G F 0,G F 0,C ⟨#[]⟩,D none 0 0] 30))))
  all_goals
   go_wp2_with fail
   go_meet
  ·exact⟨u5.heap.size,oa,oc,rfl,rfl,ae u5 _,k5.alloc k5.size _⟩
  ·have E4:=dh hp5 rfl (G F 1) (G F 1) (C ⟨#[]⟩) (D oa 0 oc)
   have K4:Below WX.heap.size WX (au u5 u4.heap.size 0 [G F 1,G F 1,C ⟨#[]⟩,D oa 0 oc]):=k5.trans ((aE u4.heap.size _ _ u5).mono k4.size)
   exact⟨u4.heap.size,oa,oc,rfl,rfl,E4,K4⟩
  ·have E4:=dh hq5 rfl (G F 1) (G F 1) (C ⟨#[]⟩) (D oa 0 oc)
   have K4:Below WX.heap.size WX (au u5 WX.heap.size 0 [G F 1,G F 1,C ⟨#[]⟩,D oa 0 oc]):=k5.trans (aE WX.heap.size _ _ u5)
   exact⟨WX.heap.size,oa,oc,rfl,rfl,E4,K4⟩
 case rest=>
  obtain⟨p,oa,oc,rfl,rfl,hpb,kx⟩:=hcut
  have HPB:=aa hpb
  have HVB:=aa ((kx.block u3.heap.size (lt_block' HVX.out)).trans HVX.out)
  have HKC:=aa (af HKX.out kx)
  clear s0 s1 s2 s3 s4 s5 s6 D0 HS HST HEO H14X H7X H14c H7c hpb kx hlt7
  have HS:Hid (∀W',Below wc.heap.size wc W'→(W'.cell? ⟨u3.heap.size,0,none⟩=some (G F 2)∧W'.cell? ⟨u3.heap.size,1,none⟩=some (G F 5)∧W'.cell? ⟨u3.heap.size,2,none⟩=some (C ⟨#[]⟩)∧W'.cell? ⟨u3.heap.size,3,none⟩=some (D va 0 vc)∧W'.cell? ⟨p,0,none⟩=some (G F 1)∧W'.cell? ⟨p,1,none⟩=some (G F 1)∧W'.cell? ⟨p,2,none⟩=some (C ⟨#[]⟩)∧W'.cell? ⟨p,3,none⟩=some (D oa 0 oc))):=fun W' kk=>by
   have q:=(kk.block _ (lt_block' HVB.out)).trans HVB.out
   have q2:=(kk.block _ (lt_block' HPB.out)).trans HPB.out
   exact⟨ac q 0,ac q 1,ac q 2,ac q 3,ac q2 0,ac q2 1,ac q2 2,ac q2 3⟩
  have D0:Below wc.heap.size wc wc.drew:=(J _ _).drew
  obtain⟨s0,s1,s2,s3,s4,s5,s6,s7⟩:=HS.out wc (J _ _)
  have hl1:u3.heap.size<wc.heap.size:=lt_block' HVB.out
  have hl2:p<wc.heap.size:=lt_block' HPB.out
  go_upto_region 4 with fail
  go_region_held3 (fun W'=>(W'.cell? ⟨u3.heap.size,0,none⟩=some (G F 2)∧W'.cell? ⟨u3.heap.size,1,none⟩=some (G F 5)∧W'.cell? ⟨u3.heap.size,2,none⟩=some (C ⟨#[]⟩)∧W'.cell? ⟨u3.heap.size,3,none⟩=some (D va 0 vc)∧W'.cell? ⟨p,0,none⟩=some (G F 1)∧W'.cell? ⟨p,1,none⟩=some (G F 1)∧W'.cell? ⟨p,2,none⟩=some (C ⟨#[]⟩)∧W'.cell? ⟨p,3,none⟩=some (D oa 0 oc)))
   (first
     | with_reducible exact HS.out _ k11
     | with_reducible exact HS.out _ k9
     | with_reducible exact HS.out _ k8
     | with_reducible exact HS.out _ k7
     | with_reducible exact HS.out _ k6
     | with_reducible exact HS.out _ D0
     | exact⟨s0,s1,s2,s3,s4,s5,s6,s7⟩
     | go_keep)
   (first
     | (go_at_call 28;go_fit (i6 ⟨#[109,97,116,99,104]⟩ _ (by decide));rw[pf];rintro e u11 ⟨rfl,h11⟩;have k11:Below wc.heap.size wc u11:=k9.trans (h11.mono k9.size))
     | (go_at_call 27;go_fit (im ⟨#[109,97,116,99,104]⟩ u9);rw[lG];rintro e u10 ⟨rfl,rfl⟩)
     | (go_at_call 11;go_fit (lB 1 1 oa oc u8);rintro e u9 ⟨rfl,h9⟩;have k9:Below wc.heap.size wc u9:=k8.trans (h9.mono k8.size))
     | (go_at_call 24;go_fit (ls u7);rintro e u8 ⟨rfl,h8⟩;have k8:Below wc.heap.size wc u8:=k7.trans (h8.mono k7.size))
     | (go_at_call 11;go_fit (lB 2 5 va vc u6);rintro e u7 ⟨rfl,h7⟩;have k7:Below wc.heap.size wc u7:=k6.trans (h7.mono k6.size))
     | (go_at_call 26;go_fit (p9 5 wc.drew);rintro e u6 ⟨rfl,h6⟩;have k6:Below wc.heap.size wc u6:=D0.trans h6))
  all_goals
   have HK11:=aa (af HKC.out k11)
   go_wp2_with fail
   go_ret
   exact⟨rfl,HK11.out⟩
end Go.Proofs.YtijjpoohhgapoaaGreatDoor
