/-
  What is proved here: called with any graph, names, numbers and term, in whatever world in which the listed variables read as the program's text lays them, the law TermEval answers true; and nothing that was there is changed.
-/
import Derived.Test.YtijjpoohhgapoaaGreatDoorVQBS
import Derived.Shelf.Vars
import Derived.Test.YtijjpoohhgapoaaGreatDoorCards
import Derived.Test.YtijjpoohhgapoaaGreatDoorTie
import Derived.OpenShut
import Derived.MakeChecks
import Derived.LaidOnce
import Derived.SevenTiedAt
import Derived.Carry
import Derived.SliceStrings
import Derived.ChangeMaps5
import Derived.Deep.DeepHandedRow
namespace Go.Proofs.YtijjpoohhgapoaaGreatDoor
open Go.ChangeShapes Go.WideShapes Go.ChangeAt Go.RowKit Go.Lib
set_option linter.unusedVariables false
set_option maxRecDepth 100000
namespace termEval
theorem own:ownKnob Tryz.prog.godebug=none:=by kernel_rfl
theorem jH:laidOutB Tryz.prog=true:=by kernel_rfl
section
variable {H:Type} {enc:TypeId × Value→H} {P:Program} {w:World} {base:Nat} {spare:Nat→Bool} {aH:Bool}
theorem dX {t:TypeId} {ts:List TypeId} {v:Value} {vs:List Value} {d:DataW H} {ds:List (DataW H)} {p q:List MemPlace} (h:DataW.Trod enc P w base spare aH t v d p) (hr:DataW.TrodAll enc P w base spare aH ts vs ds q):DataW.TrodAll enc P w base spare aH (t::ts) (v::vs) (d::ds) (p++q):=⟨p,q,h,hr,rfl⟩
end
theorem uO (os:Os) (started:os.Started) (H:Type) (enc:TypeId × Value→H) (F:Stop.Interp) :
  ReturnsInHanded {} Tryz.checked os 3 .any ((OpenSpec.ofChange Rows.termEvalSpec).preRow enc Tryz.prog Tryz.f3 Rows.termEvalRow.domain false Rows.termEvalRow.laid) (((OpenSpec.ofChange Rows.termEvalSpec).at F).post enc Tryz.prog Tryz.f3 false true false false):=by
 have hok:Input.okWideB Tryz.prog ((World.laidAll Tryz.prog os Rows.termEvalRow.laid).forCall (fun _ _=>0) ⟨#[],#[.agg #[.slice none 0 0,.slice none 0 0,.int .i64 0],.slice none 0 0,.slice none 0 0,.agg #[.int .i64 0,.int .i64 0,.int .i64 0,.string ⟨#[]⟩,.slice none 0 0,.string ⟨#[]⟩,.slice none 0 0]],[]⟩) 3 ⟨#[],#[.agg #[.slice none 0 0,.slice none 0 0,.int .i64 0],.slice none 0 0,.slice none 0 0,.agg #[.int .i64 0,.int .i64 0,.int .i64 0,.string ⟨#[]⟩,.slice none 0 0,.string ⟨#[]⟩,.slice none 0 0]],[]⟩=true:=by kernel_rfl
 have hx:DataW.whole enc Tryz.prog ((World.laidAll Tryz.prog os Rows.termEvalRow.laid).forCall (fun _ _=>0) ⟨#[],#[.agg #[.slice none 0 0,.slice none 0 0,.int .i64 0],.slice none 0 0,.slice none 0 0,.agg #[.int .i64 0,.int .i64 0,.int .i64 0,.string ⟨#[]⟩,.slice none 0 0,.string ⟨#[]⟩,.slice none 0 0]],[]⟩).memory Tryz.f3.params.toList (OpenSpec.ofChange Rows.termEvalSpec).vars false #[Value.agg #[.slice none 0 0,.slice none 0 0,.int .i64 0],.slice none 0 0,.slice none 0 0,.agg #[.int .i64 0,.int .i64 0,.int .i64 0,.string ⟨#[]⟩,.slice none 0 0,.string ⟨#[]⟩,.slice none 0 0]].toList 8=some ([.agg [.nil,.nil,.lit (.int .i64 0)],.nil,.nil,.agg [.lit (.int .i64 0),.agg [.lit (.int .i64 0),.lit (.int .i64 0),.lit (.string []),.nil],.lit (.string []),.nil]],[],[]):=by kernel_rfl
 refine returnsInHanded_of_row (C:=Tryz.checked) (s:=OpenSpec.ofChange Rows.termEvalSpec) own started (by kernel_rfl) Tryz.func3
  ⟨World.laidAll Tryz.prog os Rows.termEvalRow.laid,fun _ _=>0,⟨#[],#[.agg #[.slice none 0 0,.slice none 0 0,.int .i64 0],.slice none 0 0,.slice none 0 0,.agg #[.int .i64 0,.int .i64 0,.int .i64 0,.string ⟨#[]⟩,.slice none 0 0,.string ⟨#[]⟩,.slice none 0 0]],[]⟩,World.laidAll_os _ _ _,World.shaped_of_ZipB (by kernel_rfl) (by kernel_rfl),(Input.okWide_of_okWideB (base:=0) hok).1,(Input.okWide_of_okWideB hok).2,
    OpenSpec.preRow_of_cond 8 hx (by kernel_rfl) (fun k hk=>by cases hk) (by kernel_rfl) (by rw[MakeChecks.laidMetH_plain _ _ _ (by kernel_rfl)];exact laidMet_laidAll _ (by kernel_rfl) (by kernel_rfl)),
    by simp only[Assume.holds];exact⟨by simp,by simp,fun _=>Modest.zero,by simp,by simp⟩⟩ ?_
 intro W base args ds gs before hval0 hW _ hcond _ hL hShp _
 obtain⟨mm,hmm⟩:=Go.Proofs.cell_of_shapedOpen_int (zero:=#[.int .i64 0]) (t:=3) (g:=2) hShp (of_decide_eq_true (by kernel_rfl)) (by kernel_rfl) rfl (by kernel_rfl) (by kernel_rfl) Tryz.underlying3
 have hml:2<W.heap.size:=by
  have h5:=hmm
  unfold World.cell? at h5
  split at h5
  ·rename_i hb5
   exact(Array.getElem?_eq_some_iff.1 hb5).1
  ·cases h5
 have hval:∀(j:Nat) t v,Tryz.f3.params[j]? = some t→args[j]? = some v→Value.okWide Tryz.prog W .any base t v:=hval0
 have hW':=hW
 obtain⟨p,q,hA0,hV,rfl,_,_⟩:=hW
 have hA:DataW.TrodAll enc Tryz.prog W 0 (fun _=>true) true Tryz.f3.params.toList args.toList ds p:=hA0
 rw[Tryz.params3] at hA hval
 obtain⟨vv,hvv⟩:∃vv,vv=args.toList:=⟨_,rfl⟩
 rw[←hvv] at hA
 obtain⟨v0,vs0,d0,ds0,pp0,q0,e0,e0d,e0p,h0,hA0⟩:=trodAll_cons hA
 obtain⟨v1,vs1,d1,ds1,pp1,q1,e1,e1d,e1p,h1,hA1⟩:=trodAll_cons hA0
 obtain⟨v2,vs2,d2,ds2,pp2,q2,e2,e2d,e2p,h2,hA2⟩:=trodAll_cons hA1
 obtain⟨v3,vs3,d3,ds3,pp3,q3,e3,e3d,e3p,h3,hA3⟩:=trodAll_cons hA2
 obtain⟨en,ed,ep⟩:=trodAll_nil hA3
 subst en ed ep
 subst e3d e3p e3
 subst e2d e2p e2
 subst e1d e1p e1
 subst e0d e0p
 rw[e0] at hvv
 obtain rfl:args = #[v0,v1,v2,v3]:=by rw[←Array.toArray_toList (xs:=args),←hvv]
 clear hvv
 obtain⟨rfl,rfl⟩:=trodVars_none hV
 rw[List.append_nil] at hW'
 have hlt:∀x ∈ pp0++(pp1++(pp2++(pp3 ++ []))),x.block<W.heap.size:=fun x hx=>by simpa using hW'.lt x hx
 rw[MakeChecks.laidMetH_plain _ _ _ (by kernel_rfl)] at hL
 have hT:=tg (l:=Rows.termEvalRow.laid) (by simp[Rows.termEvalRow]) (by simp[Rows.termEvalRow]) hL
 obtain⟨cs0,hv0,_⟩:=okWide_struct Tryz.underlying25 (hval 0 25 v0 rfl rfl)
 subst hv0
 obtain⟨fuel0,hf0⟩:=h0
 obtain⟨na0,nl0,nc0,ea0,el0,ec0,nx0,hcs0,wx0,N0,E0,hG0⟩:=sF W.heap.size (Nat.le_refl _) hT hf0
 obtain rfl:cs0 = #[.slice na0 nl0 nc0,.slice ea0 el0 ec0,.int .i64 nx0]:=by
  have e:cs0.toList = [.slice na0 nl0 nc0,.slice ea0 el0 ec0,.int .i64 nx0]:=hcs0
  rw[←Array.toArray_toList (xs:=cs0),e]
 have h0:DataW.Trod enc Tryz.prog W 0 (fun _=>true) true 25 (.agg #[.slice na0 nl0 nc0,.slice ea0 el0 ec0,.int .i64 nx0]) d0 pp0:=⟨fuel0,hf0⟩
 obtain⟨a1,n1,c1,hv1⟩:=okWide_slice Tryz.underlying26 (hval 1 26 v1 rfl rfl)
 subst hv1
 obtain⟨fuel1,hf1⟩:=h1
 have hf'1:DataW.trod enc Tryz.prog W 0 (fun _=>true) true fuel1 26 [.slice a1 n1 c1]=some (d1,pp1):=hf1
 obtain⟨_,L1,hL1⟩:=pX hf'1
 have h1:DataW.Trod enc Tryz.prog W 0 (fun _=>true) true 26 (.slice a1 n1 c1) d1 pp1:=⟨fuel1,hf1⟩
 obtain⟨a2,n2,c2,hv2⟩:=okWide_slice Tryz.underlying27 (hval 2 27 v2 rfl rfl)
 subst hv2
 obtain⟨fuel2,hf2⟩:=h2
 have hf'2:DataW.trod enc Tryz.prog W 0 (fun _=>true) true fuel2 27 [.slice a2 n2 c2]=some (d2,pp2):=hf2
 obtain⟨_,L2,hL2⟩:=tI hf'2
 have h2:DataW.Trod enc Tryz.prog W 0 (fun _=>true) true 27 (.slice a2 n2 c2) d2 pp2:=⟨fuel2,hf2⟩
 obtain⟨cs3,hv3,_⟩:=okWide_struct Tryz.underlying33 (hval 3 33 v3 rfl rfl)
 subst hv3
 obtain⟨fuel3,hf3⟩:=h3
 obtain⟨k3,vk3,vn3,vs3,va3,vl3,vc3,nm3,a3,l3,c3,Lv3,A3,hcs3,hTm3,hIn3⟩:=tf hf3
 obtain rfl:cs3 = #[.int .i64 k3,.int .i64 vk3,.int .i64 vn3,.string vs3,.slice va3 vl3 vc3,.string nm3,.slice a3 l3 c3]:=by
  have e:cs3.toList = [.int .i64 k3,.int .i64 vk3,.int .i64 vn3,.string vs3,.slice va3 vl3 vc3,.string nm3,.slice a3 l3 c3]:=hcs3
  rw[←Array.toArray_toList (xs:=cs3),e]
 have h3:DataW.Trod enc Tryz.prog W 0 (fun _=>true) true 33 (.agg #[.int .i64 k3,.int .i64 vk3,.int .i64 vn3,.string vs3,.slice va3 vl3 vc3,.string nm3,.slice a3 l3 c3]) d3 pp3:=⟨fuel3,hf3⟩
 refine(sv W N0 E0 na0 nl0 nc0 ea0 el0 ec0 nx0 L1 a1 n1 c1 L2 a2 n2 c2 k3 vk3 vn3 vs3 va3 vl3 vc3 nm3 a3 l3 c3 Lv3 A3 mm hG0 hL1 hL2 (Nat.le_refl _) hT hTm3 hIn3 hmm hml).mono fun e W' ⟨he,hb⟩=>?_
 subst he
 exact⟨_,rfl,_,_,_,[],pp0++(pp1++(pp2++(pp3 ++ []))),[],hW',trodAll_mk1 (shut_bool Tryz.underlying4 _),dX (Below.trod jH (by kernel_rfl) (of_decide_eq_true (by kernel_rfl)) h0 hb (fun x hx=>hlt x (List.mem_append_left _ hx))) (dX (Below.trod jH (by kernel_rfl) (of_decide_eq_true (by kernel_rfl)) h1 hb (fun x hx=>hlt x (List.mem_append_right _ (List.mem_append_left _ hx)))) (dX (Below.trod jH (by kernel_rfl) (of_decide_eq_true (by kernel_rfl)) h2 hb (fun x hx=>hlt x (List.mem_append_right _ (List.mem_append_right _ (List.mem_append_left _ hx))))) (dX (Below.trod jH (by kernel_rfl) (of_decide_eq_true (by kernel_rfl)) h3 hb (fun x hx=>hlt x (List.mem_append_right _ (List.mem_append_right _ (List.mem_append_right _ (List.mem_append_left _ hx)))))) (trodAll_mk0)))),rfl,hb.frame _,fun h=>by cases h⟩
theorem holds:Rows.TermEvalSaid:=
 OpenClaim.holds_of_cond 3 Tryz.f3 rfl rfl rfl rfl rfl rfl rfl ⟨rfl,rfl,rfl,rfl,rfl⟩ rfl rfl rfl rfl rfl (by kernel_rfl) Tryz.func3 (by kernel_rfl)
  (of_decide_eq_true (by kernel_rfl)) (by unfold Func.isWrapper;first | (rw[if_pos (by decide +kernel)];kernel_rfl) | (rw[if_neg (by decide +kernel)];exact⟨rfl,rfl⟩))
  (fun os started H enc _ F=>by rw[OpenClaim.pre_eq_preRow];exact uO os started H enc F)
end termEval
theorem termEval_card:Rows.TermEvalCardSaid:=
 Claim7.holds_tied_plain_at .later [] _ _ _ _ termEval.holds (fun _ h=>by cases h) (by kernel_rfl) (fun _ h=>by cases h) termEval_row_tie rfl ⟨rfl,rfl⟩ (by kernel_rfl) rfl
  (fun f fn hf hfn=>by
    obtain rfl:f=3:=Option.some.inj ((show Tryz.prog.funcNamed Rows.termEvalRow.func=some 3 by kernel_rfl).symm.trans hf) |>.symm
    obtain rfl:fn=Tryz.f3:=(Option.some.inj (Tryz.func3.symm.trans hfn)).symm
    exact⟨by kernel_rfl,fun j t ht=>by
     rw[Tryz.params3] at ht
     have hm:t ∈ [25,26,27,33]:=by simpa using Array.mem_of_getElem? ht
     have hall:([25,26,27,33].all fun u=>!Tryz.prog.wantsStandIn u)=true:=by kernel_rfl
     exact(show Tryz.prog.wantsStandIn t=false by simpa using List.all_eq_true.1 hall t hm)⟩)
  (by kernel_rfl)
#print axioms termEval_card
end Go.Proofs.YtijjpoohhgapoaaGreatDoor
