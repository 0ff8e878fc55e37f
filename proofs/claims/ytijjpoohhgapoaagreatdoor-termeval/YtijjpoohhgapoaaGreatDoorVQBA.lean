import Derived.Test.YtijjpoohhgapoaaGreatDoorVQAZ
namespace Go.Proofs.YtijjpoohhgapoaaGreatDoor
open Go.RowKit
set_option linter.unusedVariables false
set_option maxHeartbeats 4000000
set_option maxRecDepth 100000
open Value renaming slice → B, string → C, int → F, tuple → J, agg → M, pointer → Q
open IntKind renaming i64 → D
open Obj renaming cells → G
open Nat renaming le_refl → H
open Ending renaming returned → K
open List renaming toList_toArray → L
open RowKit.Below renaming refl → O
theorem aS.up {env:ByteArray→Option Th}:∀(d:Nat) (t:Tm),aS env d t→aS env (d+1) t
 | 0,t,h=>h.elim
 | d+1,.node k v nmx A,h=>by
   obtain⟨hv,h⟩:=h
   refine⟨hv,?_⟩
   rcases h with h | h | ⟨h1,h2,x,h3,h4,h5⟩ | ⟨h1,h2,h3,h4⟩
   ·exact .inl h
   ·exact .inr (.inl h)
   ·exact .inr (.inr (.inl ⟨h1,h2,x,h3,h4,aS.up d x h5⟩))
   ·exact .inr (.inr (.inr ⟨h1,h2,fun x hx=>aS.up d x (h3 x hx),h4⟩))
theorem aS.le {env:ByteArray→Option Th} {d d':Nat} (h:d≤d') {t:Tm} (ht:aS env d t):aS env d' t:=by
 induction h with
 | refl=>exact ht
 | step _ ih=>exact ih.up
theorem og {env:ByteArray→Option Th}:∀(d:Nat) (t:Tm),aS env d t→aI env (d+1) t=aI env d t
 | 0,t,h=>h.elim
 | d+1,.node k v nmx A,h=>by
   obtain⟨hv,h⟩:=h
   have e1:∀n,aI env (n+1) (.node k v nmx A)=if k=1 then v else if k=2 then eL ((env nmx).getD Th.zero).id else if k=3 then kH env (cR nmx) A else fj env A (A.map (aI env n)) (bN nmx):=fun n=>rfl
   rw[e1,e1]
   rcases h with⟨h1,_⟩ | ⟨h1,_⟩ | ⟨h1,_⟩ | ⟨h1,h2,h3,h4⟩
   ·rw[if_pos h1,if_pos h1]
   ·simp[h1]
   ·simp[h1]
   ·have hm:A.map (aI env (d+1))=A.map (aI env d):=List.map_congr_left fun x hx=>og d x (h3 x hx)
    rw[hm]
theorem wg {env:ByteArray→Option Th} {d d':Nat} (h:d≤d') {t:Tm} (ht:aS env d t):aI env d' t=aI env d t:=by
 induction h with
 | refl=>rfl
 | step hle ih=>rw[og _ t (ht.le hle)];exact ih
def cd:List (ByteArray × ThR)→Nat→List MapEntry
 | [],_=>[]
 | p::l,i=>⟨C p.1,p.2.val,i⟩::cd l (i+1)
theorem lW:∀(l:List (ByteArray × ThR)) (i:Nat) (p:ByteArray × ThR),cd (l ++ [p]) i=cd l i ++ [⟨C p.1,p.2.val,i+l.length⟩]
 | [],i,p=>rfl
 | q::l,i,p=>by
   show _::cd (l ++ [p]) (i+1)=_::(cd l (i+1)++_)
   rw[lW l (i+1) p,List.length_cons,show i+1+l.length=i+(l.length+1) by omega]
theorem gF:∀(l:List (ByteArray × ThR)) (i:Nat),cm (cd l i)
 | [],i=>fun e he=>by cases he
 | p::l,i=>fun e he=>by
   rcases List.mem_cons.1 he with rfl | he
   ·exact⟨p.1,rfl⟩
   ·exact gF l (i+1) e he
theorem gG (s:ByteArray):∀(l:List (ByteArray × ThR)) (i:Nat),bH s (cd l i)=(l.find? (fun p=>s==p.1)).map fun p=>p.2.val
 | [],i=>rfl
 | p::l,i=>by
   show(if (s==p.1)=true then some p.2.val else bH s (cd l (i+1)))=_
   cases h:(s==p.1) with
   | true=>rw[if_pos rfl,List.find?_cons_of_pos (by simp[h])];rfl
   | false=>rw[if_neg (by simp),List.find?_cons_of_neg (by simp[h])];exact gG s l (i+1)
def aO (l:List (ByteArray × Th)) (s:ByteArray):Option Th:=(l.find? (fun p=>s==p.1)).map Prod.snd
def fQ (w:World) (p:ByteArray × ThR) (q:ByteArray × Th):Prop:=p.1=q.1∧rH w q.2 p.2.val
theorem jK {w:World} (s:ByteArray):∀(l:List (ByteArray × ThR)) (m:List (ByteArray × Th)),aA (fQ w) l m→match m.find? (fun p=>s==p.1) with
  | some q=>∃p,l.find? (fun p=>s==p.1)=some p∧rH w q.2 p.2.val
  | none=>l.find? (fun p=>s==p.1)=none
 | [],m,h=>by
   have:m = []:=List.length_eq_zero_iff.1 h.1.symm
   subst this
   rfl
 | p::l,[],h=>by have:=h.1;simp at this
 | p::l,q::m,h=>by
   have h0:fQ w p q:=h.2 0 p q rfl rfl
   have ht:aA (fQ w) l m:=⟨by have:=h.1;simpa using this,fun i x y hx hy=>h.2 (i+1) x y (by simpa using hx) (by simpa using hy)⟩
   cases hs:(s==q.1) with
   | true=>
     have hs':(s==p.1)=true:=by rw[h0.1];exact hs
     rw[List.find?_cons_of_pos (by simpa using hs)]
     exact⟨p,List.find?_cons_of_pos (by simpa using hs'),h0.2⟩
   | false=>
     have hs':(s==p.1)=false:=by rw[h0.1];exact hs
     rw[List.find?_cons_of_neg (by simp[hs]),List.find?_cons_of_neg (by simp[hs'])]
     exact jK s l m ht
theorem si {w:World} {m:Nat} {l:List (ByteArray × ThR)} {q:List (ByteArray × Th)} (h:w.heap[m]? = some (.map (cd l 0).toArray l.length)) (hp:aA (fQ w) l q):bI w m (aO q):=by
 refine⟨_,_,h,by simpa using gF l 0,fun s=>?_⟩
 have hf:=jK s l q hp
 have he:=gG s l 0
 cases hq:q.find? (fun p=>s==p.1) with
 | none=>
   rw[hq] at hf
   have hf:l.find? (fun p=>s==p.1)=none:=hf
   have e:aO q s=none:=by unfold aO;rw[hq];rfl
   rw[e]
   show bH s (cd l 0).toArray.toList=none
   rw[L,he,hf]
   rfl
 | some y=>
   rw[hq] at hf
   obtain⟨p,hf,hin⟩:=hf
   have e:aO q s=some y.2:=by unfold aO;rw[hq];rfl
   rw[e]
   refine⟨p.2.val,?_,hin⟩
   rw[L,he,hf]
   rfl
def bl (N:List Nd) (E:List Ed):List ByteArray→List Int→List (ByteArray × ThR)→Int × List (ByteArray × ThR)
 | [],_,l=>(0,l)
 | s::ss,ids,l=>
   if (l.find? (fun p=>s==p.1)).isSome=true then (7,[])
   else match bg N E (ids.headD 0) with
    | none=>(5,[])
    | some x=>bl N E ss ids.tail (l ++ [(s,x)])
def mX (R:Int × List (ByteArray × ThR)) (e:Ending) (w':World):Prop:=(R.1≠0∧e=K (J #[.map none,F D R.1]))∨(R.1=0∧∃r,e=K (J #[.map (some r),F D 0])∧w'.heap[r]? = some (.map (cd R.2 0).toArray R.2.length))
theorem pg (w:World):(Instr.makeMap 50 none).run Tryz.prog w = .ok (.map (some w.heap.size)) (w.alloc (.map #[] 0)):=by kernel_rfl
theorem iK (w0 w:World) (N:List Nd) (E:List Ed) (na:Option Addr) (nl nc:Nat) (ea:Option Addr) (el ec:Nat) (next:Int) (S:List ByteArray) (sa:Option Addr) (sl sc:Nat) (I:List Int) (ia:Option Addr) (il ic:Nat) (hw:Below w0.heap.size w0 w) (hN:bF w0 N na nl) (hE:bO w0 E ea el) (h60:nl≤60) (e60:el≤60) (hrN:ez (N.map Nd.id)) (hrE:ez (E.map Ed.id)) (hS:cD w0 S sa sl) (hI:dH w0 I ia il) (hsi:il=sl):Calls Tryz.prog 14 #[M #[B na nl nc,B ea el ec,F D next],B sa sl sc,B ia il ic] w fun e w'=>mX (bl N E S I []) e w'∧Below w.heap.size w w':=by
 obtain⟨BR,hBR⟩:∃z,z=bl N E S I []:=⟨_,rfl⟩
 rw[←hBR]
 have HC:Hid (∀(id:Int) (W:World),Below w0.heap.size w0 W→Calls Tryz.prog 38 #[M #[B na nl nc,B ea el ec,F D next],F D id] W fun e w'=>e=K (J #[((bg N E id).getD ThR.zero).val,.bool (bg N E id).isSome])∧Below W.heap.size W w'):=fun id W k=>qS w0 W N E na nl nc ea el ec next id k hN hE h60 e60 hrN hrE
 subst hsi
 have hb2:Below w.heap.size w ((w.alloc (G #[B na nl nc,B ea el ec,F D next] 25)).alloc (.map #[] 0)):=((O _ _).alloc (H _) _).alloc (by simp) _
 have h0:=ay w (G #[B na nl nc,B ea el ec,F D next] 25) (.map #[] 0)
 have h1:((w.alloc (G #[B na nl nc,B ea el ec,F D next] 25)).alloc (.map #[] 0)).heap[w.heap.size]? = some (G #[B na nl nc,B ea el ec,F D next] 25 (0,0)):=by
  have hb:Below (w.heap.size+1) (w.alloc (G #[B na nl nc,B ea el ec,F D next] 25)) ((w.alloc (G #[B na nl nc,B ea el ec,F D next] 25)).alloc (.map #[] 0)):=(O _ _).alloc (by simp) _
  exact(hb.block w.heap.size (by omega)).trans (ae w (G #[B na nl nc,B ea el ec,F D next] 25))
 have hz:((w.alloc (G #[B na nl nc,B ea el ec,F D next] 25)).alloc (.map #[] 0)).heap.size=w.heap.size+2:=by simp
 have HZ:=aa hz
 have HB:=aa hb2
 have H0:=aa h0
 have H1:=aa h1
 have HW:=aa hw
 have HSA:=aa hS
 have HIA:=aa hI
 have HBR:Hid (BR=bl N E (S.drop 0) (I.drop 0) []):=hBR
 have hsm:=hS.2.1
 have hmk:=pg (w.alloc (G #[B na nl nc,B ea el ec,F D next] 25))
 clear hb2 h0 h1 hz hw hN hE hrN hrE hS hI hBR h60 e60
 go_enter Tryz.func14,Tryz.ntmps14
 go_wp2_with fail
 clear hmk
 generalize (w.alloc (G #[B na nl nc,B ea el ec,F D next] 25)).alloc (.map #[] 0)=W at HB H0 H1 HZ ⊢
 go_loopg [18] il (fun q s18 wr=>∃(i:Nat) (l:List (ByteArray × ThR)),i≤il∧il-i≤q∧s18=F D i∧wr.heap[w.heap.size+1]? = some (.map (cd l 0).toArray l.length)∧Below (w.heap.size+1) W wr∧BR=bl N E (S.drop i) (I.drop i) l)
 case atStart=>exact⟨0,[],Nat.zero_le _,by omega,rfl,H0.out,O _ _,HBR.out⟩
 case round=>
  clear HBR
  obtain⟨i,l,hi,hg,rfl,hmap,hbw,hbr⟩:=hrel
  have HMP:=aa hmap
  have HBR:=aa hbr
  have hzw:w.heap.size+2≤wr.heap.size:=by have:=hbw.size;rw[HZ.out] at this;exact this
  have hw0:Below w.heap.size w wr:=HB.out.trans (hbw.mono (by omega))
  have hw00:Below w0.heap.size w0 wr:=HW.out.trans (hw0.mono HW.out.size)
  clear hmap hbr
  by_cases hlt:i<il
  ·obtain⟨b,off,ha,hbl,hcs⟩:=HSA.out.2.2 (by omega)
   obtain⟨b2,off2,ha2,hbl2,hcs2⟩:=HIA.out.2.2 (by omega)
   have hsl:i<S.length:=by rw[←HSA.out.1];exact hlt
   have hil2:i<I.length:=by rw[←HIA.out.1];exact hlt
   obtain⟨s,hs⟩:∃s,S[i]? = some s:=⟨S[i],List.getElem?_eq_getElem hsl⟩
   obtain⟨id,hid⟩:∃s,I[i]? = some s:=⟨I[i],List.getElem?_eq_getElem hil2⟩
   obtain⟨hss,e0⟩:=hcs i s hs
   have e2:=hcs2 i id hid
   have hds:S.drop i=s::S.drop (i+1):=by
    rw[List.drop_eq_getElem_cons hsl]
    congr 1
    rw[List.getElem?_eq_getElem hsl] at hs
    exact Option.some.inj hs
   have hdi:I.drop i=id::I.drop (i+1):=by
    rw[List.drop_eq_getElem_cons hil2]
    congr 1
    rw[List.getElem?_eq_getElem hil2] at hid
    exact Option.some.inj hid
   have HDS:=aa hds
   have HDI:=aa hdi
   subst ha ha2
   have d0:wr.cell? ⟨b,off+i,none⟩=some (C s):=(hw00.cell (p:=⟨b,off+i,none⟩) hbl).trans e0
   have HE2:=aa e2
   have hbW:b<wr.heap.size:=Nat.lt_of_lt_of_le hbl hw00.size
   have hil:(i:Int)<il:=by omega
   have r1:=bn (P:=Tryz.prog) (w:=wr) Tryz.underlying50 Tryz.underlying9 HMP.out (by simpa using gF l 0) s (eC wr) true
   rw[L,gG] at r1
   clear hcs hcs2 hs hid e0 e2 hds hdi hsl hil2
   cases hf:l.find? (fun p=>s==p.1) with
   | some p=>
     rw[hf] at r1
     obtain⟨ps,xr⟩:=p
     have r2:(Instr.lookup 50 (.map (some (w.heap.size+1))) (C s) true).run Tryz.prog wr = .ok (J #[M #[.bool xr.edge,F D xr.id,C xr.typ,B xr.pa xr.pl xr.pc],.bool true]) wr:=r1
     have HRR:Hid (BR=(7,[])):=by
      show BR=_
      rw[HBR.out,HDS.out]
      unfold bl
      rw[hf]
      rfl
     have HBX:=aa (show Below w.heap.size w (wr.alloc (G #[.bool xr.edge,F D xr.id,C xr.typ,B xr.pa xr.pl xr.pc] 78)) from hw0.alloc hw0.size _)
     clear r1 hbw hw0 hw00 hf
     go_wp2_with fail
     exact bodyPost_ret (v:=J #[.map none,F D 7]) (by simp[results,Tryz.results14,go_sem]) rfl ⟨.inl ⟨by rw[HRR.out];decide,by rw[HRR.out]⟩,HBX.out⟩
   | none=>
     rw[hf] at r1
     have r2:(Instr.lookup 50 (.map (some (w.heap.size+1))) (C s) true).run Tryz.prog wr = .ok (J #[M #[.bool false,F D 0,C ⟨#[]⟩,B none 0 0],.bool false]) wr:=r1
     obtain⟨th,hth⟩:∃z,z=bg N E id:=⟨_,rfl⟩
     obtain⟨xr,hxr⟩:∃z,z=th.getD ThR.zero:=⟨_,rfl⟩
     obtain⟨ok,hok⟩:∃z,z=th.isSome:=⟨_,rfl⟩
     have HCI:Hid (∀W,Below w0.heap.size w0 W→Calls Tryz.prog 38 #[M #[B na nl nc,B ea el ec,F D next],F D id] W fun e w'=>e=K (J #[M #[.bool xr.edge,F D xr.id,C xr.typ,B xr.pa xr.pl xr.pc],.bool ok])∧Below W.heap.size W w'):=fun W k=>by
      have:=HC.out id W k
      rw[←hth,←hxr,←hok] at this
      exact this
     have HTH:=aa hth
     have HXR:=aa hxr
     have HOK:=aa hok
     have HF:=aa hf
     have HWX:Hid (Below wr.heap.size wr (wr.alloc (G #[.bool false,F D 0,C ⟨#[]⟩,B none 0 0] 78))):=(O _ _).alloc (H _) _
     have HMX:Hid ((wr.alloc (G #[.bool false,F D 0,C ⟨#[]⟩,B none 0 0] 78)).heap[w.heap.size+1]? = _):=(HWX.out.block (w.heap.size+1) (by omega)).trans HMP.out
     have HBX:Hid (Below (w.heap.size+1) W (wr.alloc (G #[.bool false,F D 0,C ⟨#[]⟩,B none 0 0] 78))):=hbw.alloc (by omega) _
     have HW0:Hid (Below w0.heap.size w0 (wr.alloc (G #[.bool false,F D 0,C ⟨#[]⟩,B none 0 0] 78))):=hw00.alloc hw00.size _
     have HWW:Hid (Below w.heap.size w (wr.alloc (G #[.bool false,F D 0,C ⟨#[]⟩,B none 0 0] 78))):=hw0.alloc hw0.size _
     have hzX:(wr.alloc (G #[.bool false,F D 0,C ⟨#[]⟩,B none 0 0] 78)).heap.size=wr.heap.size+1:=by simp
     have HZX:=aa hzX
     clear r1 hth hxr hok hf hbw hw0 hw00 hzX HC
     go_upto_region 8 with fail
     clear r2 d0
     generalize wr.alloc (G #[.bool false,F D 0,C ⟨#[]⟩,B none 0 0] 78)=WX at HWX HMX HBX HW0 HWW HZX ⊢
     have HS:Hid (∀W',Below WX.heap.size WX W'→(W'.cell? ⟨b2,off2+i,none⟩=some (F D id))∧(W'.cell? ⟨w.heap.size,0,none⟩=some (B na nl nc)∧W'.cell? ⟨w.heap.size,1,none⟩=some (B ea el ec)∧W'.cell? ⟨w.heap.size,2,none⟩=some (F D next))):=fun W' kk=>by
      have q:=(kk.block w.heap.size (by rw[HZX.out];omega)).trans ((HBX.out.block w.heap.size (by omega)).trans H1.out)
      obtain⟨q0,q1,q2⟩:=cj q
      simp at q0 q1 q2
      exact⟨((HW0.out.trans (kk.mono HW0.out.size)).cell (p:=⟨b2,off2+i,none⟩) hbl2).trans HE2.out,q0,q1,q2⟩
     have D0:Below WX.heap.size WX WX.drew:=(O _ _).drew
     obtain⟨y0,y1,y2,y3⟩:=HS.out WX (O _ _)
     have hb2W:b2<WX.heap.size:=Nat.lt_of_lt_of_le hbl2 HW0.out.size
     have hwW:w.heap.size<WX.heap.size:=by rw[HZX.out];omega
     have HST:Hid (∀u,Below WX.heap.size WX u→∀v0 v1 v2 v3:Value,(((((u.setCell ⟨WX.heap.size,0,none⟩ v0).setCell ⟨WX.heap.size,1,none⟩ v1).setCell ⟨WX.heap.size,2,none⟩ v2).setCell ⟨WX.heap.size,3,none⟩ v3).cell? ⟨b2,off2+i,none⟩=some (F D id))∧(((((u.setCell ⟨WX.heap.size,0,none⟩ v0).setCell ⟨WX.heap.size,1,none⟩ v1).setCell ⟨WX.heap.size,2,none⟩ v2).setCell ⟨WX.heap.size,3,none⟩ v3).cell? ⟨w.heap.size,0,none⟩=some (B na nl nc)∧((((u.setCell ⟨WX.heap.size,0,none⟩ v0).setCell ⟨WX.heap.size,1,none⟩ v1).setCell ⟨WX.heap.size,2,none⟩ v2).setCell ⟨WX.heap.size,3,none⟩ v3).cell? ⟨w.heap.size,1,none⟩=some (B ea el ec)∧((((u.setCell ⟨WX.heap.size,0,none⟩ v0).setCell ⟨WX.heap.size,1,none⟩ v1).setCell ⟨WX.heap.size,2,none⟩ v2).setCell ⟨WX.heap.size,3,none⟩ v3).cell? ⟨w.heap.size,2,none⟩=some (F D next))):=fun u kk v0 v1 v2 v3=>HS.out _ ((((kk.setCell (p:=⟨WX.heap.size,0,none⟩) (H _) _).setCell (p:=⟨WX.heap.size,1,none⟩) (H _) _).setCell (p:=⟨WX.heap.size,2,none⟩) (H _) _).setCell (p:=⟨WX.heap.size,3,none⟩) (H _) _)
     go_cut [13,14] (fun s13 s14 wx=>∃p,s13=Q (some ⟨p,0,none⟩)∧s14 = .bool ok∧wx.heap[p]? = some (G #[.bool xr.edge,F D xr.id,C xr.typ,B xr.pa xr.pl xr.pc] 78 (0,0))∧Below WX.heap.size WX wx)
     case first=>
      go_region_held3 (fun W'=>(W'.cell? ⟨b2,off2+i,none⟩=some (F D id))∧(W'.cell? ⟨w.heap.size,0,none⟩=some (B na nl nc)∧W'.cell? ⟨w.heap.size,1,none⟩=some (B ea el ec)∧W'.cell? ⟨w.heap.size,2,none⟩=some (F D next)))
       (first
         | with_reducible exact HS.out _ k1
         | with_reducible exact HS.out _ D0
         | with_reducible exact HS.out _ (k1.alloc k1.size _)
         | with_reducible exact HS.out _ (D0.alloc (H _) _)
         | with_reducible exact HST.out _ k1 _ _ _ _
         | exact⟨y0,y1,y2,y3⟩
         | go_keep)
       (first
         | (go_at_call 38;go_fit (HCI.out WX.drew (HW0.out.trans (D0.mono HW0.out.size)));rintro e u1 ⟨rfl,h1⟩;have k1:Below WX.heap.size WX u1:=D0.trans h1)
         | (go_at_call 38;go_fit (HCI.out (WX.drew.alloc (G #[.bool false,F D 0,C ⟨#[]⟩,B none 0 0] 78)) (HW0.out.trans ((D0.alloc (H _) _).mono HW0.out.size)));rintro e u1 ⟨rfl,h1⟩;have k1:Below WX.heap.size WX u1:=(D0.alloc (H _) _).trans (h1.mono (by simp));have hq:u1.heap[WX.heap.size]? = some (G #[.bool false,F D 0,C ⟨#[]⟩,B none 0 0] 78 (0,0)):=(h1.block WX.heap.size (by simp)).trans (ae WX.drew (G #[.bool false,F D 0,C ⟨#[]⟩,B none 0 0] 78));have r0:=ac hq 0;have r1:=ac hq 1;have r2:=ac hq 2;have r3:=ac hq 3;have f0:=aj hq 0;have f1:=aj hq 1;have f2:=aj hq 2;have f3:=aj hq 3;simp at r0 r1 r2 r3;have hsz1:WX.heap.size<u1.heap.size:=lt_block' hq))
      all_goals
       go_wp2_with fail
       go_meet
      ·exact⟨u1.heap.size,rfl,rfl,ae u1 _,k1.alloc k1.size _⟩
      ·have E4:=dh hq rfl (.bool xr.edge) (F D xr.id) (C xr.typ) (B xr.pa xr.pl xr.pc)
       have K4:Below WX.heap.size WX (au u1 WX.heap.size 0 [.bool xr.edge,F D xr.id,C xr.typ,B xr.pa xr.pl xr.pc]):=k1.trans (aE WX.heap.size _ _ u1)
       exact⟨WX.heap.size,rfl,rfl,E4,K4⟩
     case rest=>
      obtain⟨p,rfl,rfl,hpb,kx⟩:=hcut
      have HKX:=aa kx
      have HWC:=aa (show Below w.heap.size w wc from HWW.out.trans (kx.mono HWW.out.size))
      obtain⟨g0,g1,g2,g3⟩:=ai hpb
      simp at g0 g1 g2 g3
      have hpw:p<wc.heap.size:=lt_block' hpb
      have hmw:=(kx.block (w.heap.size+1) (by rw[HZX.out];omega)).trans HMX.out
      have hrun:=al (P:=Tryz.prog) Tryz.underlying50 Tryz.underlying9 hmw (by simpa using gF l 0) s (by rw[L,gG,HF.out];rfl) (M #[.bool xr.edge,F D xr.id,C xr.typ,B xr.pa xr.pl xr.pc])
      obtain⟨W5,hW5⟩:∃z,z=a7 wc (w.heap.size+1) (.map ((cd l 0).toArray.push ⟨C s,M #[.bool xr.edge,F D xr.id,C xr.typ,B xr.pa xr.pl xr.pc],l.length⟩) (l.length+1)):=⟨_,rfl⟩
      rw[←hW5] at hrun
      have HM5:Hid (W5.heap[w.heap.size+1]? = some (.map (cd (l ++ [(s,xr)]) 0).toArray (l ++ [(s,xr)]).length)):=by
       show W5.heap[w.heap.size+1]? = _
       rw[hW5,aN (lt_block' hmw),lW]
       simp[ThR.val]
      have HB5:Hid (Below (w.heap.size+1) W W5):=by
       rw[hW5]
       exact(HBX.out.trans (kx.mono (by rw[HZX.out];omega))).trans (aT _ wc _ _ (H _))
      clear hW5 hmw hpb kx
      cases ok with
      | false=>
        have HRR:Hid (BR=(5,[])):=by
         show BR=_
         rw[HBR.out,HDS.out,HDI.out]
         unfold bl
         have hn:bg N E id=none:=by
          rw[←HTH.out]
          cases hx:th with
          | none=>rfl
          | some y=>have:=HOK.out;rw[hx] at this;cases this
         rw[HF.out]
         simp[hn]
        go_wp2_with fail
        exact bodyPost_ret (v:=J #[.map none,F D 5]) (by simp[results,Tryz.results14,go_sem]) rfl ⟨.inl ⟨by rw[HRR.out];decide,by rw[HRR.out]⟩,HWC.out⟩
      | true=>
        have HRR:Hid (BR=bl N E (S.drop (i+1)) (I.drop (i+1)) (l ++ [(s,xr)])):=by
         show BR=_
         have hn:bg N E id=some xr:=by
          rw[←HTH.out]
          cases hx:th with
          | none=>have:=HOK.out;rw[hx] at this;cases this
          | some y=>rw[HXR.out,hx];rfl
         rw[HBR.out,HDS.out,HDI.out]
         conv=>lhs;unfold bl
         rw[HF.out]
         simp[hn]
        go_wp2_with fail
        go_roundg (il-(i+1))
        case measure=>omega
        case rel=>exact⟨i+1,l ++ [(s,xr)],by omega,by omega,by go_num,HM5.out,HB5.out,HRR.out⟩
  ·have hil:¬(i:Int)<il:=by omega
   have HRR:Hid (BR=(0,l)):=by
    show BR=_
    rw[HBR.out,List.drop_eq_nil_of_le (by have:=HSA.out.1;omega)]
    rfl
   have HBX:=aa hw0
   clear hbw hw0 hw00
   go_wp2_with fail
   exact bodyPost_ret (v:=J #[.map (some (w.heap.size+1)),F D 0]) (by simp[results,Tryz.results14,go_sem]) rfl ⟨.inr ⟨by rw[HRR.out],w.heap.size+1,rfl,by rw[HRR.out];exact HMP.out⟩,HBX.out⟩
end Go.Proofs.YtijjpoohhgapoaaGreatDoor
