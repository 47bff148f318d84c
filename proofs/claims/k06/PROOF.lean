import PyProof.Rows.All
import Wide.All
import OpenK.AllK
import Wide.FinOn
import Lean
import PyProof.EqAt
import PyProof.EqKinds
import PyProof.TupleCall
import KE.KSortTup
import KE.KStateDown
import PyProof.ExcBaseAll.ValueError
import PyProof.ExcClass3
import PyProof.ExcArgsOwn
import OpenK.Peek
import OpenK.KMake
import OpenK.KDescr
import KE.KIsAll
import OpenK.KOwn
import KE.KNest
import PyProof.ListStr
import PyProof.StrBlock
import PyProof.Rows.SeqMore2
import PyProof.ListMulRoad
import PyProof.TupleOps
import PySem.Challenge.RW_cranefloor_k06_whole_a_plan
set_option Elab.async false
set_option linter.all false
set_option maxRecDepth 100000
open Array renaming length_toList→ao,getElem?_toList→bf,getElem?_eq_getElem→bE,getElem?_eq_some_iff→bT,toList_append→cG,forIn_toList→eO,toList_extract→ic,toList_push→jF,toList_inj→nt,getD→ot,mem_of_getElem?→pz,toList_reverse→qf,size_setIfInBounds→Bi,replicate→NN
open Bool renaming false_ne_true→aG,false_eq_true→aZ,and_eq_true→bN,not_true→dZ,false_and→fC,and_true→gS,not_eq_true'→g6,true_and→iR,and_eq_false_iff→jY,eq_iff_iff→kN,and_false→lM,or_eq_false_iff→FT,not_eq_true→ML
open Classical renaming byContradiction→ze
open Except renaming ok→qk
open False renaming elim→gg
open ForInStep renaming yield→fS,done→y9
open Int renaming toNat_natCast→cP,emod_lt_of_pos→gK,emod_nonneg→iW,le_refl→F_
open LawfulMonad renaming pure_bind→vE
open List renaming length_map→ae,getElem?_eq_getElem→ak,length_append→aq,getElem?_map→aA,getElem?_eq_some_iff→aB,size_toArray→aD,mem_map→aE,mem_singleton→aJ,length_cons→aK,append_assoc→aO,mem_of_getElem?→aR,getD_eq_getElem?_getD→aS,mem_iff_getElem→aT,mem_cons→aV,getElem_mem→aX,getElem_map→a8,map_cons→a9,mem_append_right→a_,take_append_drop→ba,length_take→bh,range→bj,getElem?_eq_none→bp,length_drop→bq,map_append→bw,append_nil→bz,length_set→bF,mem_append→bO,length_range→bS,pairwise_append→bX,pairwise_iff_getElem→bY,length_singleton→cj,length_zip→cw,mem_range→cy,pairwise_cons→cD,map_map→cH,forIn_cons→cJ,getElem?_append_right→cL,getElem?_cons_succ→cM,flatten_cons→cO,getElem?_append_left→cS,perm_append_comm→cY,mem_cons_of_mem→c7,take_length→df,take_of_length_le→dg,take_add_one→di,getElem_drop→dj,pairwise_map→dq,length_nil→dI,mem_cons_self→dO,getElem_take→eC,getElem_of_mem→eE,nodup_cons→eG,length→eS,forIn_nil→eT,getElem?_set→eZ,ext_getElem?→e7,drop_of_length_le→fu,replicate→fD,mem_append_left→fU,mem_of_mem_drop→fX,mem_of_mem_take→f6,not_mem_nil→gB,getElem_zip→gD,take_zero→h_,lookup_cons→iC,extract_eq_take_drop→iG,drop_eq_getElem_cons→iH,take_sublist→jx,nodup_append→jA,drop_sublist→jD,length_replicate→jX,take_append_of_le_length→kA,mem_filter→kM,filterMap_cons→kT,lookup→mq,getElem_inj→m_,all_eq_true→nh,cons_append→nq,map_snd_zip→nu,toArray→ox,range_succ→oY,getElem?_toArray→pv,nodup_nil→qb,drop_zero→qc,length_pos_iff→qO,reverse_append→qP,zip_cons_cons→rE,getElem?_take→rH,map_nil→sC,drop_append→vD,mem_flatMap→vH,drop_append_of_le_length→vM,of_mem_zip→wx,foldl_cons→wy,all_append→wz,idxOf_lt_length_of_mem→xw,map_drop→Bq,getElem?_replicate→BF,length_eq_zero_iff→BH,pairwise_singleton→BL,getElem?_set_self→C1,sum_replicate_nat→C9,getElem?_set_ne→FP,getElem?_append→FU,getElem?_range→Gk,flatten_append→Gm,length_flatMap→Gn,map_congr_left→Gp,mem_filterMap→Ko,getElem_range→Kp,set_cons_succ→Kq,filter_append→Kr,all_eq_false→KS,foldl_append→KU,perm_middle→MO,zipIdx_cons→MR,prefix_refl→MS,map_const'→NR
open List.Pairwise renaming sublist→dz,nil→eY
open List.Perm renaming refl→dC,append_left→eL,trans→kQ
open Nat renaming le_refl→ay,ne_of_lt→aN,le_trans→bg,lt_of_lt_of_le→bB,zero_le→bK,ne_of_gt→b9,lt_succ_of_lt→cZ,lt_irrefl→fv,lt_succ_self→gA,sub_self→gL,mul_le_mul→ip,not_lt_zero→iX,lt_succ_iff→iY,lt_of_le_of_lt→jc,add_sub_cancel_left→jh,le_of_lt→jw,lt_of_succ_lt→jB,lt_trans→jC,min_le_right→kf,eq_zero_or_pos→lQ,add_assoc→mR,le_of_eq→oj,zero_add→oq,succ_pos→sF,le_of_not_lt→vB,mod_lt→y6,le_of_ble_eq_true→Ep,le_succ→FR,lt_trichotomy→KY,le_add_right→MQ,min_eq_left→NO
open Ne renaming symm→qi
open Option renaming getD_some→MN
open Option.some renaming inj→aF
open Prod renaming ext_iff→k7
open PyProof.Rows renaming wpS_bind→aI,wpS_pure→aM,arrOf→br,SortSt→cp,pendingOf→cv,seqObj→cV,wpS_forRange→dM,slot_tuple_getitem→eJ,wpS_mono→fh,envOfC→fi,get?_update_seq→fR,failedOf→ik,listUpdate_at→iS,IntsAre→jy,step_dedup→kg,SortKind→kz,callWith_type1→kY,envOfC→mM,AllBare→oi,wpS_get→ou,wpS_modify→ow,wpS_lift→sG,subscriptTail_builtinR→C5,entry_list_sort→NQ
open PyProof.Rows.F renaming plain_set_update_loop→iJ
open PySem renaming wpAny_bind→aa,Value→af,wpAny_pure→ag,Addr→ai,Shared→aj,wpAny→av,starEach→ax,model→aC,Program→aH,World→aW,Heap→aY,FuncData→bb,wpAny_newObj_type→bx,Around→bA,SetTable→bC,wpAny_holding→bP,wpAny_call_entry→bU,eval→bV,wpAny_field→bW,wpAny_mono→b_,wpAny_setField_rec→cf,swapsWith→cu,mainGlobals→cz,Stmt→cF,compareOp→cR,mem_of_lookup→cX,wpAny_callSpecial?_slot→c6,wpAny_seqItems→c9,Builtin→dH,codeAny_builtin→dJ,plainId_quiet→d_,bootBuiltins→eA,sizeLine_eq→eF,wpAny_ite_split→eI,DictEntry→eN,wpAny_setField→eU,backTo→fc,rawInt→fm,wpAny_typeOf→fq,behindInMarks→fw,wpAny_isInstance→fy,wpAny_rule→fE,wpAny_specialOf→fQ,wpAny_truthy_bool→fV,foldedSetIterable→fW,ofAClassStatement→fZ,codeAny→gj,sysModules→gI,intKind→gJ,unsupported→ie,setField→ig,firstArgMember→ij,Scope→iF,wpAny_passesOwn→iV,pyNext→jb,slotAt→jd,wpAny_pyIter_slot→jG,attributeBase→kj,binaryOp→ku,NameKind→kx,hashByValue→ky,holding→kX,tupleKind→lu,assign→lL,IsPair→lP,sliceBounds→mr,wpAny_standAt→mL,wpAny_comprehension_free→mP,wpAny_attempt→mQ,wpAny_forIn_list→ng,wpAny_askSetting→ni,codeAny_mono→om,letOwnedTupleGo→oX,CmpOp→p_,isSubtype_type→qe,ItemsAre→qg,relabel→qj,wpAny_Call_Name_kw→rD,IsPart→rF,wpAny_pyIter_list→sr,bindArgs→sA,callerA→sD,wpAny_dictEntries→sI,PassesOwn→vz,pyIter→vA,newExc→vC,Fin→vF,wpAny_typeNameOfWhole_itemiter→vG,wpAny_of_eq→vL,wpAny_typeNameOfWhole_keyiter→vN,wpAny_execs_nil→wu,wpAny_dictEpoch→wA,getItem→xq,newList→xr,entryOfKey→yV,reduceHash→yZ,closureFor→y4,wpAny_runValue→y7,isSubtype_stop→y8,wpAny_newTuple→y_,wpAny_typeNameOf_itemiter→zg,setSearchFrom→Bk,wpAny_handled→Bl,wpAny_onRaise→Bo,wpAny_newList→Bp,wpAny_typeNameOf_keyiter→Br,eqIsQuiet→BJ,concat_meets→C3,wpAny_isOneOf_itemiter→C8,builtinLookup_eq_fast→Er,keywordEach→FQ,wpAny_throw→FW,loadIfAlive→FX,wpAny_updateSeq_pair→FY,wpAny_letGo→FZ,wpAny_pyIter_tuple→Kn,wpAny_assign_Name→KQ,wpAny_eqBool_int→MI,noFill_tuple_add→MJ,wpAny_updateSeq→NM,typeLookup_type→NP,Within→Sf
open PySem.Around renaming under_plainId→cQ,in1_units→iB
open PySem.AutoSeq1 renaming wpAny_loadPart'→cC,sub_tuple_tuple→iP,sub_list_list→C6
open PySem.Builtin.Dict renaming showsAll→pB
open PySem.Builtin.Dict_items renaming ownsTuple→wB
open PySem.Builtin.List renaming listExtendWith→ft,listSameRef→gi,listTooLong→iQ,listLengthHint→xv,listTouch→C7
open PySem.Builtin.Slice renaming slicePlaces→mh,sliceAdjust→zd
open PySem.Builtin.SmallTypes renaming nextOf→bZ,ownedTupleIsFree→dD
open PySem.Builtin.Tuple renaming tupleHashOf→fN,tupleExact→mO,tupleItemsOf→yX
open PySem.Calls renaming call_function_entry→zf
open PySem.Data renaming seq→yY
open PySem.F renaming plain_extend_loop→cT,called_set→fF,plain_list_iadd→gC,slot_dict_keyiterator_next→je,plainAttrs_list→jg,slot_tuple_iterator_next→jH,slot_zip_next→oZ,slot_dict_itemiterator_next→qW,slot_tuple_hash→sH,entry_proto_collect→xt,plain_proto_collect→xu,excBase_ValueError→za,args_tuple_add_2→Bd,slot_list_append→Be,type_list_append→Bf,entry_tuple_add→BG,entry_list_iadd→BK,slot_tuple_add→C4,slot_tuple_lt→Eo
open PySem.Heap renaming get?_push_of_some→ah,get?_push_size→aw,lt_size→az,SameBut→bR,size_push→c8,get?_update_self→dw,get?_update_other→eB,get?_none_of_le→FO,ExtBut→FV
open PySem.Heap.SameBut renaming update→bG,refl→eD
open PySem.NameKind renaming free→Bg
open PySem.Obj renaming mapSeq→dP,mapFields→gU,data_mapFields→lO,isFreed_of_fields→pA,putSet→rJ
open PySem.PassesOwn renaming never→bu
open PySem.PyData renaming depthAll→c_,eqvAll→dY,canLayAll0→e9,eqv→hW,canLay0→jz,depth→kZ
open PySem.SetTable renaming below→bH,insertAt→bL,runEnd→cb,Probe→cN,bits→dB,turns→lN,grown→qd,slot→Bh,fill→Bj,layClean→KW,advance→MK
open PySem.SetTable.Met renaming empty→rG
open PySem.SetTable.below renaming go→sE
open PySem.SetTable.layClean renaming free→jE
open PySem.SetTable.probe renaming go→fY
open PySem.Shared renaming TypeIs→gT
open PySem.Str renaming ofString→iA
open PySem.Value renaming ref→au,none→bD,type→cK,bool→gf,int→gR,isInt_shape→ml,str→BD
open PySem.W renaming Frag→aQ,findIn→cA,fnOf→eP,emptyDict→eX,keepIn→gz,nsIn→gM,instObj→gQ,excIn→km,kia_one→kO,kia_tup→kP,mg_of→mS,plainGet→nc,codeIn→qa,hasDictIn→su,isFn→sv,lookIn→yW,plainGet_of→Gj,methodObj→KP,plainOver→KR,takerIn→NJ,makesIn→NK,OpenLaw→NL
open Sum renaming inl→xo,inr→xp
open True renaming intro→cB
namespace L2
open PySem PySem.Spec PyProof.Rows
abbrev Key:=Sum Int Str
def Nc:Key->af->Bool
 | .inl k,v=>Value.isInt k v
 | .inr x,v=>Value.isStrOf x v
def Ug(w:aW):Key->Int
 | .inl k=>hashInt k
 | .inr x=>hashStr w x
theorem fI: ∀{k:Key} {v:af},Nc k v=true->(∃i t,k=xo i/\v=gR i t)\/(∃x t,k=xp x/\v=BD x t)
 | .inl i,v,h=>by
  obtain⟨t,e⟩:=ml (k:=i) (v:=v) h;exact .inl ⟨i,t,rfl,e⟩
 | .inr x,v,h=>by
  obtain⟨t,e⟩:=Value.isStrOf_shape (x:=x) (v:=v) h;exact .inr ⟨x,t,rfl,e⟩
theorem OU(a b:Int):decide ((xo a:Key)=xo b)=(a==b):=by
 by_cases e:a=b
 ·subst e; simp
 ·have h: ¬(xo a:Key)=xo b:=fun q=>e (Sum.inl.inj q);rw [decide_eq_false h];exact(beq_eq_false_iff_ne.mpr e).symm
theorem N1(a b:Str):decide ((xp a:Key)=xp b)=decide (a=b):=by
 by_cases e:a=b
 ·subst e; simp
 ·have h: ¬(xp a:Key)=xp b:=fun q=>e (Sum.inr.inj q);rw [decide_eq_false h,decide_eq_false e]
theorem Oh(a:Int)(b:Str):decide ((xo a:Key)=xp b)=false:=decide_eq_false (fun q=>nomatch q)
theorem NS(a:Str)(b:Int):decide ((xp a:Key)=xo b)=false:=decide_eq_false (fun q=>nomatch q)
def Df(prog:aH)(w:aW):PySem.KeyKind prog w Key where
 is:=Nc
 hash:=Ug w
 inj:=fun v a b ha hb=>by
  rcases fI ha with⟨i,t,rfl,rfl⟩ | ⟨x,t,rfl,rfl⟩
  ·rcases fI hb with⟨j,u,rfl,e⟩ | ⟨y,u,rfl,e⟩
   ·injection e with e1 _; rw [e1]
   ·exact nomatch e
  ·rcases fI hb with⟨j,u,rfl,e⟩ | ⟨y,u,rfl,e⟩
   ·exact nomatch e
   ·injection e with e1 _; rw [e1]
 byValue:=fun k v h=>by
  rcases fI h with⟨i,t,rfl,rfl⟩ | ⟨x,t,rfl,rfl⟩ <;> rfl
 pyHash:=fun hv h=>by
  rcases fI hv with⟨i,t,rfl,rfl⟩ | ⟨x,t,rfl,rfl⟩
  ·exact wpAny_pyHash_int h
  ·exact wpAny_pyHash_str h
 eqBool:=fun hu hv h=>by
  rcases fI hu with⟨i,t,rfl,rfl⟩ | ⟨x,t,rfl,rfl⟩
  ·rcases fI hv with⟨j,u,rfl,rfl⟩ | ⟨y,u,rfl,rfl⟩
   ·rw [OU]at h; exact MI h
   ·rw [Oh]at h; exact SeqAt.EqAt.int_str i t y u _ _ _ _ h
  ·rcases fI hv with⟨j,u,rfl,rfl⟩ | ⟨y,u,rfl,rfl⟩
   ·rw [NS]at h; exact SeqAt.EqAt.str_int x t j u _ _ _ _ h
   ·rw [N1]at h; exact wpAny_eqBool_str h
 «strs» :=fun k x t v h=>by
  rcases fI h with⟨i,u,rfl,e⟩ | ⟨y,u,rfl,e⟩
  ·exact nomatch e
  ·injection e with e1 _;subst e1;cases v <;> rfl
end L2
namespace L2
open PySem PySem.Spec PyProof.Rows
inductive V where
 | non | bl (b:Bool) | int (i:Int) | str (x:Str) | byt (b:Array UInt8) | flt (b:UInt64) | ref (a:ai) | ty (n:String)
 deriving DecidableEq
def RelV:V->af->Prop
 | .non,u=>u=bD
 | .bl b,u=>u=gf b
 | .int i,u=> ∃t,u=gR i t
 | .str x,u=> ∃t,u=BD x t
 | .byt b,u=> ∃t,u=Value.bytes b t
 | .flt b,u=> ∃t,u=Value.float b t
 | .ref a,u=>u=au a
 | .ty n,u=>u=cK n
abbrev Vals:List V->List af->Prop:=Paired RelV
theorem Vals.length{xs:List V}{us:List af}(r:Vals xs us):xs.length=us.length:=Paired.length r
theorem Vals.get: ∀{xs:List V} {us:List af} {i:Nat} {x:V},Vals xs us->xs[i]? =some x-> ∃u,us[i]? =some u/\RelV x u
 | _,_,_,_, .nil,e=>by simp at e
 | _,_,0,_, .cons r _,e=>by simp at e; subst e; exact⟨_,rfl,r⟩
 | _,_,i+1,x, .cons _ t,e=>by
  obtain⟨u,h1,h2⟩:=Vals.get (i:=i) (x:=x) t (by simpa using e);exact⟨u,by simpa using h1,h2⟩
theorem Vals.set{x:V}{u:af}(r:RelV x u): ∀{xs:List V} {us:List af} (i:Nat),Vals xs us->Vals (xs.set i x) (us.set i u)
 | _,_,_, .nil=> .nil
 | _,_,0, .cons _ t=> .cons r t
 | _,_,i+1, .cons q t=> .cons q (Vals.set r i t)
theorem Vals.append: ∀{xs ys:List V} {us ws:List af},Vals xs us->Vals ys ws->Vals (xs ++ ys) (us ++ ws)
 | _,_,_,_, .nil,s=>s
 | _,_,_,_, .cons r t,s=> .cons r (Vals.append t s)
theorem Vals.take: ∀{xs:List V} {us:List af} (n:Nat),Vals xs us->Vals (xs.take n) (us.take n)
 | _,_,0,_=> .nil
 | _,_,_+1, .nil=> .nil
 | _,_,n+1, .cons r t=> .cons r (Vals.take n t)
theorem Vals.drop: ∀{xs:List V} {us:List af} (n:Nat),Vals xs us->Vals (xs.drop n) (us.drop n)
 | _,_,0,r=>r
 | _,_,_+1, .nil=> .nil
 | _,_,n+1, .cons _ t=>Vals.drop n t
def vT:Option V->Option af->Prop
 | some v,some u=>RelV v u
 | none,none=>True
 | _,_=>False
def KV{κ:Type}:List (κ×V)->List (κ×af)->Prop:=Paired fun(p:κ×V) (q:κ×af)=>p.1=q.1/\RelV p.2 q.2
def kV:Key->V
 | .inl i=> .int i
 | .inr x=> .str x
inductive HO where
 | lst (xs:List V)
 | tup (xs:List V)
 | dK (vt:List (Key×V)) | dT (vt:List (List Key×V))
 | set (S:Int->Bool) (n:Nat)
 | ins (C dx:ai) (fs:List (Str×V))
 | own (x:ai)
 | xd (fs:List (Str×V))
 | met (f x:ai)
 | rng (lo hi:Int)
 | frz (o:Obj) (u:HO)
 | tbl (ps:Array af)
 | ext (φ:aY->Prop)
abbrev Hp:=ai->Option HO
def upd(H:Hp)(a:ai)(o:HO):Hp:=fun b=>if b=a then some o else H b
theorem bI{H:Hp}{a:ai}{o:HO}:upd H a o a=some o:=by unfold upd; rw [if_pos rfl]
theorem b8{H:Hp}{a b:ai}{o:HO}(h:b≠a):upd H a o b=H b:=by unfold upd; rw [if_neg h]
theorem gq{H:Hp}{a b:ai}{o:HO}(h:H a=some o)(h':H b=none):a≠b:=by
 intro e; subst e; rw [h]at h'; cases h'
section
variable (P:aH)(w:aW)
def fJ(H:Hp)(h:aY)(a:ai):HO->Prop
 | .lst xs=>xs.length<=sizeLine/\ ∃(its:List af) (n:Nat),Vals xs its/\h.get? a=some {cls:= .type "list",data:= .seq its.toArray n}
 | .tup xs=>xs.length<=sizeLine/\ ∃its:List af,Vals xs its/\IsTup h a its.toArray
 | .dK vt=>vt.length<=sizeLine/\(a==gI)=false/\ ∃vs,KV vt vs/\h.DictOf (Df P w) a vs
 | .dT vt=>vt.length<=sizeLine/\(a==gI)=false/\ ∃xs:List (List Key×ai×af),
   Paired (fun(p:List Key×V) (q:List Key×ai×af)=>p.1=q.1/\H q.2.1=some (.tup (p.1.map kV))/\RelV p.2 q.2.2) vt xs/\
   ∃o es ep,h.get? a=some o/\o.ExactDict/\o.data= .dict es ep/\es.toList=xs.map (yV (lu (Df P w)))/\(xs.map (·.1)).Nodup
 | .set S n=>h.SetOf (gJ P w) a S n
 | .ins C dx fs=>H dx=some (.own a)/\fs.length<=1000/\dx≠a/\h.get? a=some (gQ C dx)/\
   ∃mA,h.Ns1 dx mA/\(∀f,vT (fs.lookup f) (mA f))/\Sf mA (fs.map (·.1))
 | .own _=> ∃o,h.get? a=some o
 | .xd fs=> ∃mA,h.Ns1 a mA/\ ∀f,vT (fs.lookup f) (mA f)
 | .rng lo hi=> ∃t u v,h.get? a=some {cls:= .type "range",data:= .fields #[.int lo t, .int hi u, .int 1 v]}
 | .frz o u=>h.get? a=some o/\fJ H h a u
 | .tbl ps=>h.get? a=some {cls:= .none,data:= .fields ps}
 | .met f x=>h.get? a=some (KP (.ref f) (.ref x))
 | .ext φ=>φ h/\(∃o,h.get? a=some o)/\ ∀h1 h2:aY,φ h1->(∀o,h1.get? a=some o->h2.get? a=some o)->φ h2
def qh(H:Hp)(h:aY):Prop:= ∀a o,H a=some o->fJ P w H h a o
end
section
variable {P:aH}{w:aW}{H H':Hp}{h h':aY}{a:ai}{o:HO}
theorem fJ.lt(x:fJ P w H h a o):a < h.objs.size:=by
 cases o with
 | lst xs=>obtain⟨_,_,_,_,e⟩:=x; exact az e
 | tup xs=>obtain⟨_,_,_,p⟩:=x; exact p.lt
 | dK vt=>obtain⟨_,_,_,_,o,_,_,e,_⟩:=x; exact az e
 | dT vt=>obtain⟨_,_,_,_,o,_,_,e,_⟩:=x; exact az e
 | set S n=>obtain⟨o,_,_,_,e,_⟩:=x; exact az e
 | ins C dx fs=>obtain⟨_,_,_,e,_⟩:=x; exact az e
 | own y=>obtain⟨_,e⟩:=x; exact az e
 | xd fs=>obtain⟨_,⟨_,_,_,e,_⟩,_⟩:=x; exact az e
 | rng lo hi=>obtain⟨_,_,_,e⟩:=x; exact az e
 | frz ob u=>obtain⟨e,_⟩:=x; exact az e
 | tbl ps=>exact az (show h.get? a=some _ from x)
 | met f y=>exact az (show h.get? a=some _ from x)
 | ext φ=>obtain⟨_,⟨_,e⟩,_⟩:=x; exact az e
theorem Paired.mapP{α β:Type}{F G:α->β->Prop}: ∀{Rx:List α} {l₂:List β},Paired F Rx l₂->(∀a b,F a b->G a b)->Paired G Rx l₂
 | _,_, .nil,_=> .nil
 | _,_, .cons r t,f=> .cons (f _ _ r) (Paired.mapP t f)
theorem fJ.stay(x:fJ P w H h a o)(k: ∀b u,(b=a\/H b=some (.own a))->h.get? b=some u->h'.get? b=some u)
  (ho: ∀b,H b=some (.own a)->H' b=some (.own a))(ht: ∀b xs,H b=some (.tup xs)->H' b=some (.tup xs)):fJ P w H' h' a o:=by
 induction o with
 | lst xs=>obtain⟨z,its,n,r,e⟩:=x; exact⟨z,its,n,r,k _ _ (.inl rfl) e⟩
 | tup xs=>obtain⟨z,its,r,ob,e,c⟩:=x; exact⟨z,its,r,ob,k _ _ (.inl rfl) e,c⟩
 | dK vt=>obtain⟨z,y,vs,r,ob,es,ep,e,c⟩:=x; exact⟨z,y,vs,r,ob,es,ep,k _ _ (.inl rfl) e,c⟩
 | dT vt=>
  obtain⟨z,y,xs,r,ob,es,ep,e,c⟩:=x;exact⟨z,y,xs,Paired.mapP r fun p q z=>⟨z.1,ht _ _ z.2.1,z.2.2⟩,ob,es,ep,k _ _ (.inl rfl) e,c⟩
 | set S n=>obtain⟨ob,es,ep,t,e,c⟩:=x; exact⟨ob,es,ep,t,k _ _ (.inl rfl) e,c⟩
 | ins C dx fs=>
  obtain⟨d,z,ne,e,mA,⟨od,es,ep,e2,c⟩,r⟩:=x;exact⟨ho _ d,z,ne,k _ _ (.inl rfl) e,mA,⟨od,es,ep,k _ _ (.inr d) e2,c⟩,r⟩
 | own y=>obtain⟨ob,e⟩:=x; exact⟨ob,k _ _ (.inl rfl) e⟩
 | xd fs=>obtain⟨mA,⟨od,es,ep,e,c⟩,r⟩:=x; exact⟨mA,⟨od,es,ep,k _ _ (.inl rfl) e,c⟩,r⟩
 | rng lo hi=>obtain⟨t,u,v,e⟩:=x; exact⟨t,u,v,k _ _ (.inl rfl) e⟩
 | frz ob u ih=>obtain⟨e,q⟩:=x; exact⟨k _ _ (.inl rfl) e,ih q⟩
 | tbl ps=>
  have e:h.get? a=some {cls:= .none,data:= .fields ps}:=x;show h'.get? a=some {cls:= .none,data:= .fields ps};exact k a _ (.inl rfl) e
 | met f y=>
  have e:h.get? a=some (KP (.ref f) (.ref y)):=x;show h'.get? a=some (KP (.ref f) (.ref y));exact k a _ (.inl rfl) e
 | ext φ=>obtain⟨p,⟨o,e⟩,st⟩:=x; exact⟨st _ _ p fun o q=>k _ _ (.inl rfl) q,⟨o,k _ _ (.inl rfl) e⟩,st⟩
theorem qh.lt(x:qh P w H h)(e:H a=some o):a < h.objs.size:=(x a o e).lt
theorem qh.fresh(x:qh P w H h)(e:h.objs.size<=a):H a=none:=by
 cases q:H a with
 | none=>rfl
 | some u=>exact absurd (bB (x.lt q) e) (fv _)
theorem qh.kept(x:qh P w H h)(k: ∀b u,h.get? b=some u->h'.get? b=some u):qh P w H h':=fun a o e=>
 (x a o e).stay (fun b u _ q=>k b u q) (fun _ q=>q) fun _ _ q=>q
theorem qh.laid(x:qh P w H h)(k: ∀b u,h.get? b=some u->h'.get? b=some u)(hp:h.objs.size<=a)(new:fJ P w (upd H a o) h' a o):qh P w (upd H a o) h':=fun b u e=>by
 have hn:=x.fresh hp
 by_cases hb:b=a
 ·subst hb; rw [bI]at e; cases e; exact new
 ·rw [b8 hb]at e;exact(x b u e).stay (fun c v _ q=>k c v q) (fun c q=>by rw [b8 (gq q hn)]; exact q) fun c xs q=>by rw [b8 (gq q hn)]; exact q
end
def Rd(H:Hp)(a:ai)(u:HO):Prop:=H a=some u\/ ∃o,H a=some (.frz o u)
theorem Rd.ok{P:aH}{w:aW}{H:Hp}{h:aY}{a:ai}{u:HO}(r:Rd H a u)(x:qh P w H h):fJ P w H h a u:=by
 rcases r with r | ⟨o,r⟩
 ·exact x a u r
 ·obtain⟨_,q⟩:=x a _ r;exact q
def Sv:Option HO->Prop
 | some (.lst _)=>True
 | some (.dK _)=>True
 | some (.dT _)=>True
 | some (.set _ _)=>True
 | some (.ins _ _ _)=>True
 | some (.ext _)=>True
 | _=>False
section
variable {P:aH}{w:aW}{H:Hp}{h h':aY}{x e:ai}{o':HO}
theorem qh.write(ok:qh P w H h)(mu:Sv (H x))(he:e=x\/H e=some (.own x))(k: ∀b u,b≠e->h.get? b=some u->h'.get? b=some u)(PU: ∃u,h'.get? e=some u)
  (new:fJ P w (upd H x o') h' x o'):qh P w (upd H x o') h':=fun b u q=>by
 have Rh: ∀c y,H c=some (.own y)->c≠x:=fun c y r z=>by subst z; rw [r]at mu; exact mu
 have Vr: ∀c xs,H c=some (.tup xs)->c≠x:=fun c xs r z=>by subst z; rw [r]at mu; exact mu
 by_cases hb:b=x
 ·subst hb; rw [bI]at q; cases q; exact new
 ·rw [b8 hb]at q
  by_cases hbe:b=e
  ·have q':H b=some (.own x):=by
    rcases he with z | z
    ·exact absurd (hbe.trans z) hb
    ·rw [hbe]; exact z
   rw [q]at q'; cases q';obtain⟨v,hv⟩:=PU;exact⟨v,by rw [hbe]; exact hv⟩
  ·refine(ok b u q).stay (fun c v hc r=>k c v ?_ r) (fun c r=>by rw [b8 (Rh c b r)]; exact r) fun c xs r=>by rw [b8 (Vr c xs r)]; exact r
   rcases hc with rfl | hc
   ·exact hbe
   ·rintro rfl
    rcases he with z | z
    ·exact Rh c b hc z
    ·rw [hc]at z; cases z; exact hb rfl
end
structure Un(fs ex:List ai)(H H':Hp)(h h':aY):Prop where
 keep: ∀b o,h.get? b=some o->H b=none->b∉fs->b∉ex->h'.get? b=some o
 slot: ∀b o,h.get? b=some o->H b=none->b∈fs->b∉ex-> ∃sl,h'.get? b=some {o with slots:=sl}
 free: ∀b o,h.get? b=some o->H b=none->b∉ex->H' b=none
 there: ∀b o,h.get? b=some o->b∉ex-> ∃o',h'.get? b=some o'
 wc: ∀b xs,H b=some (.tup xs)->H' b=some (.tup xs)
 ud: ∀b o u,H b=some (.frz o u)->H' b=some (.frz o u)
 wa: ∀b ps,H b=some (.tbl ps)-> ∃more,H' b=some (.tbl (ps ++ more))
section
variable {fs fs' ex ex':List ai}{H H1 H2:Hp}{h h1 h2 h':aY}{a x e:ai}{o:HO}
theorem Un.any(u:Un fs ex H H1 h h1){b:ai}{ob:Obj}(q:h.get? b=some ob)(n:H b=none)(hx:b∉ex): ∃sl,h1.get? b=some {ob with slots:=sl}:=by
 by_cases hb:b∈fs
 ·exact u.slot b ob q n hb hx
 ·exact⟨ob.slots,u.keep b ob q n hb hx⟩
theorem Un.kept(k: ∀b u,h.get? b=some u->h'.get? b=some u):Un fs ex H H h h':=
 ⟨fun b ob q _ _ _=>k b ob q,fun b ob q _ _ _=>⟨ob.slots,k b ob q⟩,fun _ _ _ n _=>n,fun b ob q _=>⟨ob,k b ob q⟩,fun _ _ q=>q,fun _ _ _ q=>q,fun _ ps q=>⟨#[],by rw [q]; simp⟩⟩
theorem Un.refl:Un fs ex H H h h:=Un.kept fun _ _ q=>q
theorem Un.laid(k: ∀b u,h.get? b=some u->h'.get? b=some u)(hp:h.objs.size<=a)(hn:H a=none):Un fs ex H (upd H a o) h h' where
 keep:=fun b u q _ _ _=>k b u q
 slot:=fun b u q _ _ _=>⟨u.slots,k b u q⟩
 free:=fun b u q n _=>by rw [b8 (aN (bB (az q) hp))]; exact n
 there:=fun b u q _=>⟨u,k b u q⟩
 wc:=fun b xs q=>by rw [b8 (gq q hn)]; exact q
 ud:=fun b u xs q=>by rw [b8 (gq q hn)]; exact q
 wa:=fun b ps q=>⟨#[],by rw [b8 (gq q hn),q]; simp⟩
theorem Un.write(mu:Sv (H x))(he:e=x\/H e=some (.own x))(k: ∀b u,b≠e->h.get? b=some u->h'.get? b=some u)(PU: ∃u,h'.get? e=some u):Un fs ex H (upd H x o) h h':=by
 have hx: ∀b,H b=none->b≠x:=fun b n z=>by subst z; rw [n]at mu; exact mu
 have hb: ∀b,H b=none->b≠e:=fun b n z=>by
  subst z
  rcases he with r | r
  ·exact hx b n r
  ·rw [n]at r; cases r
 have hm: ∀b u,H b=some u-> ¬Sv (some u)->b≠x:=fun b u q nm z=>by subst z; rw [q]at mu; exact nm mu
 refine⟨fun b u q n _ _=>k b u (hb b n) q,fun b u q n _ _=>⟨u.slots,k b u (hb b n) q⟩,fun b u q n _=>by rw [b8 (hx b n)]; exact n,fun b u q _=> ?_,
  fun b xs q=>by rw [b8 (hm b _ q fun z=>z)]; exact q,fun b u xs q=>by rw [b8 (hm b _ q fun z=>z)]; exact q,fun b ps q=>⟨#[],by rw [b8 (hm b _ q fun z=>z),q]; simp⟩⟩
 by_cases hbe:b=e
 ·subst hbe; exact PU
 ·exact⟨u,k b u hbe q⟩
end
def Sr(h:aY)(H:Hp):List ai:=(bj h.objs.size).filter fun a=>(H a).isSome
def xY(h:aY)(H:Hp):aY:=PySem.W.hideAll h (Sr h H)
theorem Fp(h:aY)(H:Hp):(xY h H).objs.size=h.objs.size:=PySem.W.hideAll_size _ _
theorem Hv{h:aY}{H:Hp}{b:ai}{o:Obj}(e:h.get? b=some o)(n:H b=none):(xY h H).get? b=some o:=
 PySem.W.hideAll_get _ e fun hm=>by
  have q:(H b).isSome=true:=(kM.mp hm).2;rw [n]at q; simp at q
theorem LL{h:aY}{H:Hp}{b:ai}{o:Obj}(e:(xY h H).get? b=some o):h.get? b=some o/\H b=none:=by
 have e':h.get? b=some o:=PySem.W.of_hideAll (Sr h H) e;refine⟨e', ?_⟩;cases q:H b with
 | none=>rfl
 | some x=>
  have hm:b∈Sr h H:=kM.mpr ⟨cy.mpr (az e'),by simp [q]⟩;have z:(xY h H).get? b=none:=PySem.W.hideAll_none (Sr h H) hm;rw [z]at e; cases e
def Mm(g h:aY)(L:ai):List (ai×Obj):=(bj h.objs.size).filterMap fun a=>if a=L\/(g.get? a).isSome=true then none else(h.get? a).map fun o=>(a,o)
def rest(g h:aY)(L d:ai):List (ai×Obj):=(Mm g h L).filter fun p=>decide (p.1≠d)
end L2
namespace L2
open PySem PySem.Spec PyProof.Rows
structure Mod(K:aQ)(mg:Str->Option af)(base:aY):Prop where
 Ga:K.In base
 glob:base.Ns cz mg
 blt: ∃mb,base.Ns builtinsNs mb/\ ∀x:Str,x≠"__name__"->mb x=eA x
 nolimit:base.NoLimit
structure Cx where
 prog:aH
 w:aW
 K:aQ
 mg:Str->Option af
 base:aY
 A:bA
 N:List Str
 s₀:aj
 H₀:Hp
 env:Env
 outer:List Env
 stack:List Env
 ex:List ai
 fn:Str->Bool
 calm:Bool
 pn:List (ai×Obj)
 xe:af->aj->Prop
def Bt(l:List Env):List ai:=l.filterMap (·.frame)
abbrev Cx.fs(X:Cx):List ai:=Bt X.outer
def yn(sc:iF)(x:Str):Prop:=sc.names.lookup x=some .local\/sc.names.lookup x=some .cell\/sc.names.lookup x=some .free
def Loc(sc:iF)(x:Str):Prop:=sc.names.lookup x=some .local\/sc.names.lookup x=some .cell
def Look(env:Env)(h:aY)(m:Str->Option af)(x:Str)(u:af):Prop:=
 (env.kindOf x=some .local/\m x=some u)\/((env.kindOf x=some .cell\/env.kindOf x=some .free)/\ ∃c,env.cells.lookup x=some c/\h.IsCell c (some u))
structure Cx.Ok(X:Cx):Prop where
 mod:Mod X.K X.mg X.base
 kind:X.env.scope.kind= .function
 glob:X.env.globals=cz
 blt:X.env.builtins=builtinsNs
 above:X.s₀.heap.objs.size<=X.env.locals
 inj: ∀x y c,X.env.cells.lookup x=some c->X.env.cells.lookup y=some c->x=y
 has: ∀x,(X.env.kindOf x=some .cell\/X.env.kindOf x=some .free)-> ∃c,X.env.cells.lookup x=some c
 PC: ∀x c,X.fn x=true->X.env.cells.lookup x=some c->X.s₀.heap.objs.size<=c
 hd:X.calm=true->X.A.handled=none
 frames:X.A.frames=some X.stack
 yb:X.stack=X.outer\/(X.stack=X.env::X.outer/\X.env.frame=some X.env.locals)
 T4: ∀b∈X.ex,b≠X.env.locals/\ ∀x c,X.env.cells.lookup x=some c->c≠b
 bs: ∀b o,X.base.get? b=some o->X.s₀.heap.get? b=some o/\X.H₀ b=none
 Hk:X.base.objs.size<=X.s₀.heap.objs.size
 B0: ∀b o,X.base.get? b=some o->b∉X.ex
 HB: ∀b∈X.ex,b∉X.fs
 rA:X.s₀.heap.FunFrames X.base X.outer
 Nj: ∀b∈X.fs,X.H₀ b=none
structure Inv(X:Cx)(pins:List (ai×Obj))(σ:List (Option V))(H:Hp)(s:aj):Prop where
 ok:X.Ok
 os:s.os=X.s₀.os
 bare:oi s.gens
 base:Un X.fs X.ex X.H₀ H X.s₀.heap s.heap
 loc: ∃m,s.heap.Ns X.env.locals m/\ ∀(i:Nat) (x:Str) (v:V),X.N[i]? =some x->σ[i]? =some (some v)->yn X.env.scope x-> ∃u,RelV v u/\Look X.env s.heap m x u
 cell: ∀x c,X.env.cells.lookup x=some c-> ∃v,s.heap.IsCell c v
 free:H X.env.locals=none
 mV: ∀x c,X.env.cells.lookup x=some c->H c=none
 pin: ∀p∈X.pn ++ pins,s.heap.get? p.1=some p.2/\H p.1=none/\p.1≠X.env.locals/\p.1∉X.fs/\ ∀v,p.2.data≠ .cell v
 fb:qh X.prog X.w H s.heap
 len:σ.length=X.N.length
section
variable {X:Cx}{pins:List (ai×Obj)}{σ:List (Option V)}{H H':Hp}{s:aj}{h':aY}
theorem Cx.Ok.nofr(ok:X.Ok){b:ai}{o:Obj}(e:X.base.get? b=some o):b∉X.fs:=fun hb=>by
 have:=(ok.rA.mem hb).1;rw [e]at this; cases this
theorem Inv.bs(I:Inv X pins σ H s): ∀b o,X.base.get? b=some o->s.heap.get? b=some o/\H b=none:=fun b o e=>
 ⟨I.base.keep b o (I.ok.bs b o e).1 (I.ok.bs b o e).2 (I.ok.nofr e) (I.ok.B0 b o e),I.base.free b o (I.ok.bs b o e).1 (I.ok.bs b o e).2 (I.ok.B0 b o e)⟩
theorem Inv.bk(I:Inv X pins σ H s): ∀b o,X.base.get? b=some o->s.heap.get? b=some o:=fun b o e=>(I.bs b o e).1
theorem Inv.mod(I:Inv X pins σ H s):Mod X.K X.mg X.base:=I.ok.mod
theorem Inv.kIn(I:Inv X pins σ H s):X.K.In s.heap:=I.ok.mod.Ga.keeps I.bk
theorem Inv.lt(I:Inv X pins σ H s):X.env.locals < s.heap.objs.size:=let⟨_,hn,_⟩:=I.loc; hn.lt
theorem Inv.sz(I:Inv X pins σ H s):X.s₀.heap.objs.size<=s.heap.objs.size:=bg I.ok.above (jw I.lt)
theorem Inv.nofs(I:Inv X pins σ H s){a:ai}(h:s.heap.objs.size<=a):a∉X.fs:=fun hb=>by
 obtain⟨_,o,ho,_⟩:=I.ok.rA.mem hb;exact absurd (bB (az ho) (bg I.sz h)) (fv _)
theorem Inv.cne(I:Inv X pins σ H s): ∀x c,X.env.cells.lookup x=some c->c≠X.env.locals:=fun x c e z=>by
 obtain⟨v,o,ho,hd⟩:=I.cell x c e;obtain⟨m,⟨o',es,ep,yO,BB,_⟩,_⟩:=I.loc;rw [z,yO]at ho; cases ho; rw [BB]at hd; cases hd
theorem Inv.rA(I:Inv X pins σ H s):s.heap.FunFrames X.base X.outer:=by
 have all: ∀(l:List Env),(∀b∈Bt l,b∈X.fs)->X.s₀.heap.FunFrames X.base l->s.heap.FunFrames X.base l:=by
  intro l
  induction l with
  | nil=>intro _ _; trivial
  | cons env r ih=>
   intro hs hl;obtain⟨hk,⟨L,o,hf,hn,ho,hd⟩,hr⟩:=hl;have hL:L∈X.fs:=hs L (by unfold Bt; rw [kT,hf]; exact dO);obtain⟨sl,e⟩:=I.base.slot L o ho (I.ok.Nj L hL) hL fun z=>I.ok.HB L z hL;exact⟨hk,⟨L,_,hf,hn,e,hd⟩,ih (fun b hb=>hs b (by unfold Bt; rw [kT,hf]; exact c7 _ hb)) hr⟩
 exact all X.outer (fun _ hb=>hb) I.ok.rA
theorem Inv.stack(I:Inv X pins σ H s):s.heap.FunFrames X.base X.stack:=by
 rcases I.ok.yb with e | ⟨e,hf⟩
 ·rw [e]; exact I.rA
 ·rw [e];obtain⟨m,hn,_⟩:=I.loc;refine .cons (by rw [I.ok.kind]; decide) hf hn ?_ I.rA;exact FO (bg I.ok.Hk I.ok.above)
theorem Inv.stkSub(I:Inv X pins σ H s): ∀b∈Bt X.stack,b∈X.env.locals::X.fs:=fun b hb=>by
 rcases I.ok.yb with e | ⟨e,hf⟩
 ·rw [e]at hb; exact c7 _ hb
 ·rw [e]at hb;unfold Bt at hb;rw [kT,hf]at hb;exact hb
theorem Inv.stkFree(I:Inv X pins σ H s): ∀b∈Bt X.stack,H b=none:=fun b hb=>by
 rcases aV.mp (I.stkSub b hb)with e | hb
 ·rw [e]; exact I.free
 ·obtain⟨_,o,ho,_⟩:=I.ok.rA.mem hb;exact I.base.free b o ho (I.ok.Nj b hb) fun z=>I.ok.HB b z hb
theorem Inv.step{g':Array GenState}{t':Nat}{d':Drawn}{ch:List ai}(I:Inv X pins σ H s)
  (FF: ∀b∈ch,(b∈X.ex\/X.s₀.heap.objs.size<=b)/\b≠X.env.locals/\(∀x c,X.env.cells.lookup x=some c->c≠b)/\ ∀p∈X.pn ++ pins,p.1≠b)
  (keep: ∀b o,b≠X.env.locals->b∉X.fs->b∉ch->s.heap.get? b=some o->H b=none->h'.get? b=some o)
  (slot: ∀b o,b≠X.env.locals->b∈X.fs->b∉ch->s.heap.get? b=some o->H b=none-> ∃sl,h'.get? b=some {o with slots:=sl})(free: ∀b o,b∉ch->s.heap.get? b=some o->H b=none->H' b=none)
  (there: ∀b o,b∉ch->s.heap.get? b=some o-> ∃o',h'.get? b=some o')
  (wc: ∀b xs,H b=some (.tup xs)->H' b=some (.tup xs))(ud: ∀b o u,H b=some (.frz o u)->H' b=some (.frz o u))(wa: ∀b ps,H b=some (.tbl ps)-> ∃more,H' b=some (.tbl (ps ++ more)))
  (ns: ∀m,s.heap.Ns X.env.locals m->h'.Ns X.env.locals m)(fb:qh X.prog X.w H' h')(hg:oi g'):
  Inv X pins σ H' {s with heap:=h',gens:=g',drawn:=d',toks:=t'}:=by
 have Xw: ∀b o,X.s₀.heap.get? b=some o->b≠X.env.locals:=fun b o e=>aN (bB (az e) I.ok.above);have SW: ∀b o,X.s₀.heap.get? b=some o->b∉X.ex->b∉ch:=fun b o e hx hb=>by
  rcases(FF b hb).1 with z | z
  ·exact hx z
  ·exact absurd (bB (az e) z) (fv _)
 have cellK: ∀x c,X.env.cells.lookup x=some c-> ∀v,s.heap.IsCell c v->h'.IsCell c v:=fun x c e v ⟨o,ho,hd⟩=>by
  have NC:c∉ch:=fun z=>(FF c z).2.2.1 x c e rfl
  by_cases hc:c∈X.fs
  ·obtain⟨sl,q⟩:=slot c o (I.cne x c e) hc NC ho (I.mV x c e);exact⟨_,q,hd⟩
  ·exact⟨o,keep c o (I.cne x c e) hc NC ho (I.mV x c e),hd⟩
 refine⟨I.ok,I.os,hg,⟨fun b o e n hb hx=> ?_,fun b o e n hb hx=> ?_,fun b o e n hx=> ?_,fun b o e hx=> ?_,fun b xs e=>wc b xs (I.base.wc b xs e),fun b o xs e=>ud b o xs (I.base.ud b o xs e),fun b ps e=> ?_⟩, ?_,fun x c e=> ?_, ?_,fun x c e=> ?_,fun p hp=> ?_,fb,I.len⟩
 ·exact keep b o (Xw b o e) hb (SW b o e hx) (I.base.keep b o e n hb hx) (I.base.free b o e n hx)
 ·obtain⟨sl,e1⟩:=I.base.slot b o e n hb hx;obtain⟨U5,e2⟩:=slot b _ (Xw b o e) hb (SW b o e hx) e1 (I.base.free b o e n hx);exact⟨U5,e2⟩
 ·obtain⟨o',e1⟩:=I.base.there b o e hx;exact free b o' (SW b o e hx) e1 (I.base.free b o e n hx)
 ·obtain⟨o',e1⟩:=I.base.there b o e hx;exact there b o' (SW b o e hx) e1
 ·obtain⟨m1,e1⟩:=I.base.wa b ps e;obtain⟨m2,e2⟩:=wa b _ e1;exact⟨m1 ++ m2,by rw [e2,Array.append_assoc]⟩
 ·obtain⟨m,hn,hl⟩:=I.loc;refine⟨m,ns m hn,fun i x v e1 e2 e3=> ?_⟩;obtain⟨u,r,l⟩:=hl i x v e1 e2 e3;refine⟨u,r, ?_⟩
  rcases l with l | ⟨k,c,e,z⟩
  ·exact .inl l
  ·exact .inr ⟨k,c,e,cellK x c e _ z⟩
 ·obtain⟨v,z⟩:=I.cell x c e;exact⟨v,cellK x c e v z⟩
 ·obtain⟨m,⟨o,_,_,ho,_⟩,_⟩:=I.loc;exact free _ o (fun z=>(FF _ z).2.1 rfl) ho I.free
 ·obtain⟨v,o,ho,hd⟩:=I.cell x c e;exact free c o (fun z=>(FF c z).2.2.1 x c e rfl) ho (I.mV x c e)
 ·obtain⟨e,n,ne,nf,d⟩:=I.pin p hp;have NC:p.1∉ch:=fun z=>(FF p.1 z).2.2.2 p hp rfl;exact⟨keep p.1 p.2 ne nf NC e n,free p.1 p.2 NC e n,ne,nf,d⟩
theorem Inv.un{t':Nat}(I:Inv X pins σ H s)(u:Un X.fs [] H H' s.heap h')(fb:qh X.prog X.w H' h'):Inv X pins σ H' {s with heap:=h',toks:=t'}:=by
 obtain⟨m,⟨o,es,ep,ho,r⟩,_⟩:=id I.loc;obtain⟨sl,hL⟩:=u.any ho I.free (by simp);exact I.step (g':=s.gens) (d':=s.drawn) (ch:= []) (fun _ z=>nomatch z) (fun b o _ hb _ e n=>u.keep b o e n hb (by simp)) (fun b o _ hb _ e n=>u.slot b o e n hb (by simp)) (fun b o _ e n=>u.free b o e n (by simp)) (fun b o _ e=>u.there b o e (by simp)) u.wc u.ud u.wa (fun m' hm=>by
  obtain⟨o',qS,Pc,yO,r'⟩:=hm;rw [ho]at yO; cases yO;exact⟨_,qS,Pc,hL,r'⟩) fb I.bare
theorem Inv.call{g':Array GenState}{t':Nat}{d':Drawn}{ch:List ai}(I:Inv X pins σ H s)(u:Un (Bt X.stack) ch H H' s.heap h')(fb:qh X.prog X.w H' h')(hg:oi g')
  (FF: ∀b∈ch,(b∈X.ex\/X.s₀.heap.objs.size<=b)/\b≠X.env.locals/\(∀x c,X.env.cells.lookup x=some c->c≠b)/\ ∀p∈X.pn ++ pins,p.1≠b):
  Inv X pins σ H' {s with heap:=h',gens:=g',drawn:=d',toks:=t'}:=by
 obtain⟨m,⟨o,es,ep,ho,r⟩,_⟩:=id I.loc;obtain⟨sl,hL⟩:=u.any ho I.free fun z=>(FF _ z).2.1 rfl;exact I.step (ch:=ch) FF (fun b o hL hb hc e n=>u.keep b o e n (fun z=>(aV.mp (I.stkSub b z)).elim hL hb) hc) (fun b o _ _ hc e n=>u.any e n hc) (fun b o hc e n=>u.free b o e n hc) (fun b o hc e=>u.there b o e hc) u.wc u.ud u.wa (fun m' hm=>by
  obtain⟨o',qS,Pc,yO,r'⟩:=hm;rw [ho]at yO; cases yO;exact⟨_,qS,Pc,hL,r'⟩) fb hg
theorem Inv.turned{t':Nat}{it:ai}(I:Inv X pins σ H s)(k: ∀b o,b≠it->s.heap.get? b=some o->h'.get? b=some o)(hn:H it=none)(hL:it≠X.env.locals)
  (h1:it∈X.ex\/X.s₀.heap.objs.size<=it)(h2: ∀x c,X.env.cells.lookup x=some c->c≠it)(h3: ∀p∈X.pn ++ pins,p.1≠it):Inv X pins σ H {s with heap:=h',toks:=t'}:=by
 have Xp: ∀b u,H b=some u->b≠it:=fun b u e z=>by rw [z,hn]at e; cases e
 refine I.step (g':=s.gens) (d':=s.drawn) (ch:= [it]) (fun b hb=> ?_) (fun b o _ _ hc e _=>k b o (fun z=>hc (by simp [z])) e) (fun b o _ _ hc e _=>⟨o.slots,k b o (fun z=>hc (by simp [z])) e⟩) (fun _ _ _ _ n=>n)
  (fun b o hc e=>⟨o,k b o (fun z=>hc (by simp [z])) e⟩) (fun _ _ e=>e) (fun _ _ _ e=>e) (fun b ps e=>⟨#[],by rw [e]; simp⟩) (fun m hm=> ?_) (fun b u e=> ?_) I.bare
 ·have e:b=it:=by simpa using hb
  subst e;exact⟨h1,hL,h2,h3⟩
 ·obtain⟨o,es,ep,ho,r⟩:=hm;exact⟨o,es,ep,k _ o (qi hL) ho,r⟩
 ·refine(I.fb b u e).stay (fun c v hc q=>k c v ?_ q) (fun _ q=>q) fun _ _ q=>q
  rcases hc with z | z
  ·rw [z]; exact Xp b u e
  ·exact Xp c _ z
theorem Inv.tok(I:Inv X pins σ H s)(t:Nat):Inv X pins σ H {s with toks:=t}:=I.un (h':=s.heap) (t':=t) Un.refl I.fb
theorem Inv.kept{t':Nat}(I:Inv X pins σ H s)(k: ∀b u,s.heap.get? b=some u->h'.get? b=some u):Inv X pins σ H {s with heap:=h',toks:=t'}:=I.un (Un.kept k) (I.fb.kept k)
theorem Inv.laid{a:ai}{o:HO}{t':Nat}(I:Inv X pins σ H s)(k: ∀b u,s.heap.get? b=some u->h'.get? b=some u)(hp:s.heap.objs.size<=a)(new:fJ X.prog X.w (upd H a o) h' a o):
  Inv X pins σ (upd H a o) {s with heap:=h',toks:=t'}:=I.un (Un.laid k hp (I.fb.fresh hp)) (I.fb.laid k hp new)
theorem Inv.write{x e:ai}{o:HO}{t':Nat}(I:Inv X pins σ H s)(mu:Sv (H x))(he:e=x\/H e=some (.own x))(k: ∀b u,b≠e->s.heap.get? b=some u->h'.get? b=some u)(PU: ∃u,h'.get? e=some u)
  (new:fJ X.prog X.w (upd H x o) h' x o):Inv X pins σ (upd H x o) {s with heap:=h',toks:=t'}:=I.un (Un.write mu he k PU) (I.fb.write mu he k PU new)
theorem Inv.pins_of{Nx:List (ai×Obj)}(I:Inv X pins σ H s)(h: ∀p∈Nx,s.heap.get? p.1=some p.2/\H p.1=none/\p.1≠X.env.locals/\p.1∉X.fs/\ ∀v,p.2.data≠ .cell v):Inv X Nx σ H s:=
 ⟨I.ok,I.os,I.bare,I.base,I.loc,I.cell,I.free,I.mV,fun p hp=>(bO.mp hp).elim (fun z=>I.pin p (fU _ z)) (h p),I.fb,I.len⟩
theorem AW{N:List Str}(hN:N.Nodup){i j:Nat}{x:Str}(a:N[i]? =some x)(b:N[j]? =some x):i=j:=by
 obtain⟨h1,e1⟩:=aB.mp a;obtain⟨h2,e2⟩:=aB.mp b;exact(m_ hN).mp (e1.trans e2.symm)
theorem qY{M:Model}{A:bA}{E:af->aj->Prop}{i:Nat}{x:Str}{v:V}{u:af}{Q:Unit->aj->Prop}(I:Inv X pins σ H s)(hN:X.N.Nodup)(hi:X.N[i]? =some x)(hx:Loc X.env.scope x)(r:RelV v u)
  (h: ∀s',Inv X pins (σ.set i (some v)) H s'->(∃a,bR a s.heap s'.heap/\(a=X.env.locals\/X.env.cells.lookup x=some a))->Q () s')(hf:X.fn x=true\/X.env.scope.names.lookup x=some .local:=by first | exact .inl rfl | exact .inr rfl | assumption):av M A (storeName X.env x u) Q E s:=by
 obtain⟨m,hn,hl⟩:=id I.loc;have Ve:(X.env.scope.kind== .class || (X.env.scope.kind== .module&&X.env.locals !=X.env.globals))=false:=by rw [I.ok.kind]; rfl
 have RP:i < σ.length:=by rw [I.len]; exact(aB.mp hi).1
 have cne:=I.cne;have tracked: ∀{a:ai} {h':aY},(∃o,s.heap.get? a=some o/\H a=none)->bR a s.heap h'->qh X.prog X.w H h':=fun{a h'} ha hs b ob e=>by
  obtain⟨_,_,Nz⟩:=ha;refine(I.fb b ob e).stay (fun c w' hc q=>(hs.2 c ?_).trans q) (fun _ q=>q) fun _ _ q=>q;rintro rfl
  rcases hc with rfl | hc
  ·rw [Nz]at e; cases e
  ·rw [Nz]at hc; cases hc
 rcases hx with hk | hk
 ·refine wpAny_storeName_local hk hn (fun h' XN hs=> ?_) Ve;obtain⟨oL,_,_,KI,_⟩:=id hn;refine h _ ⟨I.ok,I.os,I.bare,⟨fun b o e n hb hx=> ?_,fun b o e n hb hx=> ?_,I.base.free,fun b o e hx=> ?_,I.base.wc,I.base.ud,I.base.wa⟩,⟨_,XN,fun j y v' e1 e2 e3=> ?_⟩,fun y c e=> ?_,I.free,I.mV,fun p hp=> ?_,tracked ⟨oL,KI,I.free⟩ hs,by simpa using I.len⟩ ⟨_,hs, .inl rfl⟩
  ·exact(hs.2 b (aN (bB (az e) I.ok.above))).trans (I.base.keep b o e n hb hx)
  ·obtain⟨sl,e1⟩:=I.base.slot b o e n hb hx;exact⟨sl,(hs.2 b (aN (bB (az e) I.ok.above))).trans e1⟩
  ·obtain⟨o',e1⟩:=I.base.there b o e hx;exact⟨o',(hs.2 b (aN (bB (az e) I.ok.above))).trans e1⟩
  ·by_cases hj:j=i
   ·subst hj;rw [hi]at e1; cases e1;rw [C1 RP]at e2;cases e2;exact⟨u,r, .inl ⟨hk,by simp⟩⟩
   ·rw [FP (qi hj)]at e2;obtain⟨u',r',q⟩:=hl j y v' e1 e2 e3;refine⟨u',r', ?_⟩
    rcases q with⟨k,e⟩ | ⟨k,c,e,z⟩
    ·refine .inl ⟨k, ?_⟩;have:y≠x:=fun e=>hj (AW hN e1 (e▸hi));simp [this,e]
    ·exact .inr ⟨k,c,e,z.sameBut hs (cne y c e)⟩
  ·obtain⟨w',z⟩:=I.cell y c e;exact⟨w',z.sameBut hs (cne y c e)⟩
  ·obtain⟨e,n,ne,nf,d⟩:=I.pin p hp;exact⟨(hs.2 p.1 ne).trans e,n,ne,nf,d⟩
 ·have RZ:X.fn x=true:=by
   rcases hf with z | z
   ·exact z
   ·rw [z]at hk; cases hk
  obtain⟨c,hc⟩:=I.ok.has x (.inl hk);obtain⟨w',z⟩:=I.cell x c hc;refine wpAny_storeName_cell I.ok.kind hk hc z (fun h' QS hs=> ?_);obtain⟨oc,WU,Vl⟩:=id z;refine h {s with heap:=h'} ⟨I.ok,I.os,I.bare,⟨fun b o e n hb hx=> ?_,fun b o e n hb hx=> ?_,I.base.free,fun b o e hx=> ?_,I.base.wc,I.base.ud,I.base.wa⟩,⟨m,hn.sameBut hs (qi (cne x c hc)),fun j y v' e1 e2 e3=> ?_⟩,fun y c' e=> ?_,I.free,I.mV,fun p hp=> ?_,tracked ⟨oc,WU,I.mV x c hc⟩ hs,by simpa using I.len⟩ ⟨c,hs, .inr hc⟩
  ·exact(hs.2 b (aN (bB (az e) (I.ok.PC x c RZ hc)))).trans (I.base.keep b o e n hb hx)
  ·obtain⟨sl,e1⟩:=I.base.slot b o e n hb hx;exact⟨sl,(hs.2 b (aN (bB (az e) (I.ok.PC x c RZ hc)))).trans e1⟩
  ·obtain⟨o',e1⟩:=I.base.there b o e hx;exact⟨o',(hs.2 b (aN (bB (az e) (I.ok.PC x c RZ hc)))).trans e1⟩
  ·by_cases hj:j=i
   ·subst hj;rw [hi]at e1; cases e1;rw [C1 RP]at e2;cases e2;exact⟨u,r, .inr ⟨.inl hk,c,hc,QS⟩⟩
   ·rw [FP (qi hj)]at e2;obtain⟨u',r',q⟩:=hl j y v' e1 e2 e3;refine⟨u',r', ?_⟩
    rcases q with q | ⟨k,c',e,z'⟩
    ·exact .inl q
    ·refine .inr ⟨k,c',e,z'.sameBut hs ?_⟩;rintro rfl;exact hj (AW hN e1 (I.ok.inj _ _ _ e hc▸hi))
  ·by_cases hcc:c'=c
   ·subst hcc; exact⟨_,QS⟩
   ·obtain⟨w2,z2⟩:=I.cell y c' e;exact⟨w2,z2.sameBut hs hcc⟩
  ·obtain⟨e,n,ne,nf,d⟩:=I.pin p hp;refine⟨(hs.2 p.1 ?_).trans e,n,ne,nf,d⟩;intro q;rw [q,WU]at e;have q':oc=p.2:=aF e;exact d w' (by rw [<-q']; exact Vl)
theorem Aw{M:Model}{A:bA}{E:af->aj->Prop}{i:Nat}{x:Str}{v:V}{u:af}{Q:Unit->aj->Prop}(I:Inv X pins σ H s)(hN:X.N.Nodup)(hi:X.N[i]? =some x)(hx:Loc X.env.scope x)(r:RelV v u)
  (h: ∀s',Inv X pins (σ.set i (some v)) H s'->Q () s')(hf:X.fn x=true\/X.env.scope.names.lookup x=some .local:=by first | exact .inl rfl | exact .inr rfl | assumption):av M A (storeName X.env x u) Q E s:=
 qY I hN hi hx r (fun s' I' _=>h s' I') hf
theorem Inv.call'{s':aj}{ch:List ai}(I:Inv X pins σ H s)(ho:s'.os=s.os)(u:Un (Bt X.stack) ch H H' s.heap s'.heap)(fb:qh X.prog X.w H' s'.heap)(hg:oi s'.gens)
  (FF: ∀b∈ch,(b∈X.ex\/X.s₀.heap.objs.size<=b)/\b≠X.env.locals/\(∀x c,X.env.cells.lookup x=some c->c≠b)/\ ∀p∈X.pn ++ pins,p.1≠b):Inv X pins σ H' s':=by
 obtain⟨h',g',d',t',o'⟩:=s';have e:o'=s.os:=ho;subst e;exact I.call (g':=g') (t':=t') (d':=d') u fb hg FF
end
abbrev XK:=af->Option ai->Hp->Prop
abbrev St:=List (Option V)
abbrev VK:=V->Hp->Prop
abbrev TE:=St->Hp->VK->Prop
abbrev TT:=St->Hp->(Bool->Hp->Prop)->Prop
abbrev TA:=St->Hp->(List V->Hp->Prop)->Prop
structure Ends where
 nx:St->Hp->Prop
 rt:VK
 bk:St->Hp->Prop:=fun _ _=>False
 ct:St->Hp->Prop:=fun _ _=>False
abbrev TS:=Ends->St->Hp->Prop
def EP(X:Cx)(pins:List (ai×Obj))(σ:St)(Q:VK)(u:af)(s':aj):Prop:= ∃v H',Inv X pins σ H' s'/\RelV v u/\Q v H'
def TP(X:Cx)(pins:List (ai×Obj))(σ:St)(Q:Bool->Hp->Prop)(b:Bool)(s':aj):Prop:= ∃H',Inv X pins σ H' s'/\Q b H'
def AP(X:Cx)(pins:List (ai×Obj))(σ:St)(Q:List V->Hp->Prop)(us:List af)(s':aj):Prop:= ∃vs H',Inv X pins σ H' s'/\Vals vs us/\Q vs H'
def SP(X:Cx)(pins:List (ai×Obj))(D:Ends)(f:Flow)(s':aj):Prop:=
 match f with
 | .next=> ∃fA H',Inv X pins fA H' s'/\D.nx fA H'
 | .brk=> ∃fA H',Inv X pins fA H' s'/\D.bk fA H'
 | .cont=> ∃fA H',Inv X pins fA H' s'/\D.ct fA H'
 | .ret u=> ∃v fA H',Inv X pins fA H' s'/\RelV v u/\D.rt v H'
def PE(X:Cx)(e:Expr)(t:TE):Prop:=
 ∀(pins:List (ai×Obj)) (s:aj) (σ:St) (H:Hp) (Q:VK),Inv X pins σ H s->t σ H Q->av (aC X.prog X.w) X.A (bV e X.env) (EP X pins σ Q) X.xe s
def PT(X:Cx)(e:Expr)(t:TT):Prop:=
 ∀(pins:List (ai×Obj)) (s:aj) (σ:St) (H:Hp) (Q:Bool->Hp->Prop),Inv X pins σ H s->t σ H Q->av (aC X.prog X.w) X.A (isTrue e X.env (bV e X.env)) (TP X pins σ Q) X.xe s
def PW(X:Cx)(e:Expr)(t:TT):Prop:=
 ∀(whole:Sem af) (pins:List (ai×Obj)) (s:aj) (σ:St) (H:Hp) (Q:Bool->Hp->Prop),Inv X pins σ H s->t σ H Q->av (aC X.prog X.w) X.A (isTrue e X.env whole) (TP X pins σ Q) X.xe s
theorem PW.pt{X:Cx}{e:Expr}{t:TT}(h:PW X e t):PT X e t:=h _
def PA(X:Cx)(es:List Expr)(t:TA):Prop:=
 ∀(pos:Pos) (pins:List (ai×Obj)) (s:aj) (σ:St) (H:Hp) (Q:List V->Hp->Prop),Inv X pins σ H s->t σ H Q->av (aC X.prog X.w) X.A (spliced (fc pos (ax es X.env))) (AP X pins σ Q) X.xe s
def PS(X:Cx)(st:cF)(t:TS):Prop:=
 ∀(pins:List (ai×Obj)) (s:aj) (σ:St) (H:Hp) (D:Ends),Inv X pins σ H s->t D σ H->av (aC X.prog X.w) X.A (exec st X.env) (SP X pins D) X.xe s
def B8(X:Cx)(st:List cF)(t:TS):Prop:=
 ∀(pins:List (ai×Obj)) (s:aj) (σ:St) (H:Hp) (D:Ends),Inv X pins σ H s->t D σ H->av (aC X.prog X.w) X.A (execs st X.env) (SP X pins D) X.xe s
theorem fx{α:Type}{t:Sem α}{Q Q':α->aj->Prop}{M:Model}{A:bA}{E:af->aj->Prop}{s:aj}(h:av M A t Q E s)(hQ: ∀a s,Q a s->Q' a s):av M A t Q' E s:=b_ h hQ fun _ _ x=>x
end L2
namespace L2
open PySem PySem.Spec PyProof.Rows
section
variable {X:Cx}
def Tz(i:Nat):TE:=fun σ H Q=> ∃v,σ[i]? =some (some v)/\Q v H
def tC(v:V):TE:=fun _ H Q=>Q v H
theorem lC{i:Nat}{x:Str}{pos:Pos}(hN:X.N[i]? =some x)(hv:yn X.env.scope x)(hd:(x==("__debug__":Str))=false:=by decide)(kc:(x==("__classdict__":Str))=false:=by decide):PE X (.Name x pos) (Tz i):=by
 intro pins s σ H Q I h;obtain⟨v,e,h⟩:=h;obtain⟨m,hn,hl⟩:=I.loc;obtain⟨u,r,l⟩:=hl i x v hN e hv;have fin:EP X pins σ Q u s:=⟨v,H,I,r,h⟩
 rcases l with⟨hk,hm⟩ | ⟨hk,c,hc,hcell⟩
 ·exact wpAny_Name (wpAny_loadName_local I.ok.kind hk hn hm fin) hd
 ·rcases hk with hk | hk
  ·exact wpAny_Name (wpAny_loadName_cell I.ok.kind hk hc hcell fin) hd
  ·exact wpAny_Name (wpAny_loadName_free I.ok.kind hk hc hcell fin kc) hd
theorem Jj{i j pos}:PE X (.Constant (.int i) j pos) (tC (.int i)):=fun _ _ _ H _ I h=>wpAny_Constant_int ⟨.int i,H,I.tok _,⟨_,rfl⟩,h⟩
theorem QO{b j pos}:PE X (.Constant (.bool b) j pos) (tC (.bl b)):=fun _ _ _ H _ I h=>Constant_bool ⟨.bl b,H,I,rfl,h⟩
theorem OH{j pos}:PE X (.Constant .none j pos) (tC .non):=fun _ _ _ H _ I h=>Constant_none ⟨.non,H,I,rfl,h⟩
theorem Oc{x j pos}:PE X (.Constant (.str x) j pos) (tC (.str x)):=fun _ _ _ H _ I h=>Calls.Constant_str ⟨.str x,H,I.tok _,⟨_,rfl⟩,h⟩
def Gl(X:Cx)(x:Str):Prop:=X.env.kindOf x=some .globalImplicit
theorem sJ{E:af->aj->Prop}{pins:List (ai×Obj)}{s:aj}{σ:St}{H:Hp}{x:Str}{u:af}{pos:Pos}{Q:af->aj->Prop}(I:Inv X pins σ H s)(hg:Gl X x)(hm:X.mg x=some u)(h:Q u s)
  (hd:(x==("__debug__":Str))=false:=by decide):av (aC X.prog X.w) X.A (bV (.Name x pos) X.env) Q E s:=
 Calls.Name_function_global I.ok.kind hg (Calls.loadGlobal_global (by rw [I.ok.glob]; exact I.mod.glob.keeps I.bk) hm h) hd
theorem rd{E:af->aj->Prop}{pins:List (ai×Obj)}{s:aj}{σ:St}{H:Hp}{x:Str}{u:af}{pos:Pos}{Q:af->aj->Prop}(I:Inv X pins σ H s)(hg:Gl X x)(hm:X.mg x=none)(hv:eA x=some u)(h:Q u s)
  (hn:x≠"__name__":=by decide)(hd:(x==("__debug__":Str))=false:=by decide):av (aC X.prog X.w) X.A (bV (.Name x pos) X.env) Q E s:=by
 obtain⟨mb,h1,h2⟩:=I.mod.blt;exact Calls.Name_function_global I.ok.kind hg (Calls.loadGlobal_builtin (by rw [I.ok.glob]; exact I.mod.glob.keeps I.bk) hm (by rw [I.ok.blt]; exact h1.keeps I.bk) ((h2 x hn).trans hv) h) hd
theorem LG{x:Str}{v:V}{u:af}{pos:Pos}(hg:Gl X x)(hm:X.mg x=some u)(r:RelV v u)(hd:(x==("__debug__":Str))=false:=by decide):PE X (.Name x pos) (tC v):=
 fun _ _ _ H _ I h=>sJ I hg hm ⟨v,H,I,r,h⟩ hd
theorem ym{x:Str}{v:V}{u:af}{pos:Pos}(hg:Gl X x)(hm:X.mg x=none)(hv:eA x=some u)(r:RelV v u)(hn:x≠"__name__":=by decide)(hd:(x==("__debug__":Str))=false:=by decide):PE X (.Name x pos) (tC v):=
 fun _ _ _ H _ I h=>rd I hg hm hv ⟨v,H,I,r,h⟩ hn hd
variable {a b:Expr}{ta tb:TE}{pos:Pos}
def tB(t:TE):TT:=fun σ H Q=>t σ H fun x H1=> ∃c,x= .bl c/\Q c H1
theorem OR{e:Expr}{t:TE}(h:PE X e t)(he: ∀whole,isTrue e X.env whole=(do let v<-whole; standAt e.pos; kX [v] (truthy v)):=by intro _; rfl):PT X e (tB t):=by
 intro pins s σ H Q I hw;refine isTrue_plain (fx (h pins s σ H _ I hw) fun v s1 ⟨x,H1,I1,r1,q1⟩=> ?_) (he _);obtain⟨d,rfl,q⟩:=q1;cases r1;exact fV ⟨H1,I1,q⟩
variable {tA SH:TT}{rest:List Expr}
def Uc(t u:TT):TT:=fun σ H Q=>t σ H fun c H1=>if c=true then u σ H1 Q else Q false H1
def X2(t u:TT):TT:=fun σ H Q=>t σ H fun c H1=>if c=true then Q true H1 else u σ H1 Q
def Ub(t:TT):TT:=fun σ H Q=>t σ H fun c H1=>Q (!c) H1
theorem pw_and1(ha:PT X a tA):PW X (.BoolOp .And [a] pos) tA:=by
 intro wh pins s σ H Q I h;refine isTrue_and (fx (ha pins s σ H Q I h) fun c s1 e=> ?_);cases c with
 | true=>exact isTrue_and_nil e
 | false=>exact e
theorem pw_or1(ha:PT X a tA):PW X (.BoolOp .Or [a] pos) tA:=by
 intro wh pins s σ H Q I h;refine isTrue_or (fx (ha pins s σ H Q I h) fun c s1 e=> ?_);cases c with
 | false=>exact isTrue_or_nil e
 | true=>exact e
theorem pw_and(ha:PT X a tA)(hb:PW X (.BoolOp .And (b::rest) pos) SH):PW X (.BoolOp .And (a::b::rest) pos) (Uc tA SH):=by
 intro wh pins s σ H Q I h;refine isTrue_and (fx (ha pins s σ H _ I h) fun c s1 ⟨H1,I1,q1⟩=> ?_);cases c with
 | true=>exact hb wh pins s1 σ H1 Q I1 q1
 | false=>exact⟨H1,I1,q1⟩
theorem pw_or(ha:PT X a tA)(hb:PW X (.BoolOp .Or (b::rest) pos) SH):PW X (.BoolOp .Or (a::b::rest) pos) (X2 tA SH):=by
 intro wh pins s σ H Q I h;refine isTrue_or (fx (ha pins s σ H _ I h) fun c s1 ⟨H1,I1,q1⟩=> ?_);cases c with
 | true=>exact⟨H1,I1,q1⟩
 | false=>exact hb wh pins s1 σ H1 Q I1 q1
theorem Ox(ha:PT X a tA):PT X (.UnaryOp .Not a pos) (Ub tA):=by
 intro pins s σ H Q I h;exact isTrue_not (ha pins s σ H (fun c H1=>Q (!c) H1) I h)
def P1(ta tb:TE):TE:=fun σ H Q=>ta σ H fun x H1=> ∃c,x= .bl c/\if c=true then tb σ H1 Q else Q (.bl false) H1
def QE(ta:TE):TE:=fun σ H Q=>ta σ H fun x H1=> ∃c,x= .bl c/\Q (.bl (!c)) H1
theorem OL{op}{t:TE}(h:PE X a t):PE X (.BoolOp op [a] pos) t:=fun pins s σ H Q I hw=>BoolOp_one (h pins s σ H Q I hw)
theorem N4(ha:PE X a ta)(hb:PE X (.BoolOp .And (b::rest) pos) tb):PE X (.BoolOp .And (a::b::rest) pos) (P1 ta tb):=by
 intro pins s σ H Q I h;refine BoolOp_and (fx (ha pins s σ H _ I h) fun v s1 ⟨x,H1,I1,r1,q1⟩=> ?_);obtain⟨c,rfl,q1⟩:=q1;cases r1;refine fV ?_;cases c with
 | true=>exact hb pins s1 σ H1 Q I1 q1
 | false=>exact⟨.bl false,H1,I1,rfl,q1⟩
theorem Ou(ha:PE X a ta):PE X (.UnaryOp .Not a pos) (QE ta):=by
 intro pins s σ H Q I h;refine UnaryOp_ (fx (ha pins s σ H _ I h) fun v s1 ⟨x,H1,I1,r1,q1⟩=> ?_);obtain⟨c,rfl,q1⟩:=q1;cases r1;exact not_of (fV ⟨.bl (!c),H1,I1,rfl,q1⟩)
end
end L2
namespace L2
open PySem PySem.Spec PyProof.Rows
def o6(K:aQ)(H:Hp)(a:ai)(xs:List V):Prop:=
 Rd H a (.lst xs)\/
  ∃(o:Obj) (its:Array af) (n:Nat),K.lookup a=some o/\o.cls= .type "list"/\o.dict=none/\o.data= .seq its n/\its.size<=sizeLine/\Vals xs its.toList
def k9(K:aQ)(H:Hp)(a:ai)(xs:List V):Prop:=
 Rd H a (.tup xs)\/
  ∃(o:Obj) (its:Array af) (n:Nat),K.lookup a=some o/\o.cls= .type "tuple"/\o.data= .seq its n/\its.size<=sizeLine/\Vals xs its.toList
def Td:af->Option V
 | .none=>some .non
 | .bool b=>some (.bl b)
 | .int i _=>some (.int i)
 | .str x _=>some (.str x)
 | .bytes b _=>some (.byt b)
 | .float b _=>some (.flt b)
 | .ref a=>some (.ref a)
 | .type n=>some (.ty n)
 | _=>none
theorem RelV.abs{x:V}{u:af}(r:RelV x u):Td u=some x:=by
 cases x with
 | non=>cases r; rfl
 | bl _=>cases r; rfl
 | int _=>obtain⟨t,rfl⟩:=r; rfl
 | str _=>obtain⟨t,rfl⟩:=r; rfl
 | byt _=>obtain⟨t,rfl⟩:=r; rfl
 | flt _=>obtain⟨t,rfl⟩:=r; rfl
 | ref _=>cases r; rfl
 | ty _=>cases r; rfl
theorem RelV.inj{x y:V}{u:af}(r:RelV x u)(q:RelV y u):x=y:=aF (r.abs.symm.trans q.abs)
theorem Vals.inj: ∀{xs ys:List V} {us:List af},Vals xs us->Vals ys us->xs=ys
 | _,_,_, .nil, .nil=>rfl
 | _,_,_, .cons r t, .cons r' t'=>by rw [r.inj r',Vals.inj t t']
section
variable {X:Cx}{pins:List (ai×Obj)}{σ:St}{H:Hp}{s:aj}{a:ai}{xs ys:List V}
theorem o6.of{K:aQ}(h:H a=some (.lst xs)):o6 K H a xs:= .inl (.inl h)
theorem k9.of{K:aQ}(h:H a=some (.tup xs)):k9 K H a xs:= .inl (.inl h)
theorem Inv.list(I:Inv X pins σ H s)(h:o6 X.K H a xs): ∃its:List af,Vals xs its/\PlainL s.heap a its.toArray/\xs.length<=sizeLine:=by
 rcases h with h | ⟨o,its,n,hk,hc,hd,hs,hz,r⟩
 ·obtain⟨z,its,n,r,e⟩:=h.ok I.fb;exact⟨its,r,⟨_,n,e,rfl,rfl,rfl⟩,z⟩
 ·refine⟨its.toList,r,⟨o,n,I.kIn a o hk,hc,hd,by simpa using hs⟩, ?_⟩;have e:=r.length;simp only [ao]at e;omega
theorem Inv.tuple(I:Inv X pins σ H s)(h:k9 X.K H a xs): ∃its:List af,Vals xs its/\IsTup s.heap a its.toArray/\xs.length<=sizeLine:=by
 rcases h with h | ⟨o,its,n,hk,hc,hs,hz,r⟩
 ·obtain⟨z,its,r,p⟩:=h.ok I.fb;exact⟨its,r,p,z⟩
 ·refine⟨its.toList,r,⟨o,I.kIn a o hk,hc,n,by simpa using hs⟩, ?_⟩;have e:=r.length;simp only [ao]at e;omega
theorem Inv.list_inj(I:Inv X pins σ H s)(h:o6 X.K H a xs)(h':o6 X.K H a ys):xs=ys:=by
 obtain⟨its,r,⟨o,n,e,_,_,d⟩,_⟩:=I.list h;obtain⟨its',r',⟨o',n',e',_,_,d'⟩,_⟩:=I.list h';rw [e]at e'; cases e';rw [d]at d';injection d' with d1 _;have:its=its':=by simpa using congrArg Array.toList d1
 subst this;exact r.inj r'
theorem Inv.tuple_inj(I:Inv X pins σ H s)(h:k9 X.K H a xs)(h':k9 X.K H a ys):xs=ys:=by
 obtain⟨its,r,⟨o,e,_,n,d⟩,_⟩:=I.tuple h;obtain⟨its',r',⟨o',e',_,n',d'⟩,_⟩:=I.tuple h';rw [e]at e'; cases e';rw [d]at d';injection d' with d1 _;have:its=its':=by simpa using congrArg Array.toList d1
 subst this;exact r.inj r'
end
abbrev Cx.wish(X:Cx)(E:af->aj->Prop):Cx:={X with xe:=E}
abbrev Cx.nox(X:Cx):Cx:=X.wish fun _ _=>False
theorem Cx.Ok.wish{X:Cx}(ok:X.Ok)(E:af->aj->Prop):(X.wish E).Ok:=
 ⟨ok.mod,ok.kind,ok.glob,ok.blt,ok.above,ok.inj,ok.has,ok.PC,ok.hd,ok.frames,ok.yb,ok.T4,ok.bs,ok.Hk,ok.B0,ok.HB,ok.rA,ok.Nj⟩
theorem Cx.Ok.unwish{X:Cx}{E:af->aj->Prop}(ok:(X.wish E).Ok):X.Ok:=
 ⟨ok.mod,ok.kind,ok.glob,ok.blt,ok.above,ok.inj,ok.has,ok.PC,ok.hd,ok.frames,ok.yb,ok.T4,ok.bs,ok.Hk,ok.B0,ok.HB,ok.rA,ok.Nj⟩
section
variable {X:Cx}{pins:List (ai×Obj)}{σ:St}{H:Hp}{s:aj}{E:af->aj->Prop}
theorem Inv.wish(I:Inv X pins σ H s)(E:af->aj->Prop):Inv (X.wish E) pins σ H s:=⟨I.ok.wish E,I.os,I.bare,I.base,I.loc,I.cell,I.free,I.mV,I.pin,I.fb,I.len⟩
theorem Inv.unwish(I:Inv (X.wish E) pins σ H s):Inv X pins σ H s:=⟨I.ok.unwish,I.os,I.bare,I.base,I.loc,I.cell,I.free,I.mV,I.pin,I.fb,I.len⟩
theorem SP.unwish{D:Ends}{f:Flow}{s':aj}(h:SP (X.wish E) pins D f s'):SP X pins D f s':=by
 cases f with
 | next=>obtain⟨fA,H',I,q⟩:=h; exact⟨fA,H',I.unwish,q⟩
 | brk=>obtain⟨fA,H',I,q⟩:=h; exact⟨fA,H',I.unwish,q⟩
 | cont=>obtain⟨fA,H',I,q⟩:=h; exact⟨fA,H',I.unwish,q⟩
 | ret u=>obtain⟨v,fA,H',I,r,q⟩:=h; exact⟨v,fA,H',I.unwish,r,q⟩
theorem B8.nox{st:List cF}{t:TS}(h:B8 X.nox st t):B8 X st t:=fun pins s σ H D I hw=>
 b_ (h pins s σ H D (I.wish _) hw) (fun _ _ q=>q.unwish) fun _ _ z=>gg z
end
section
variable {X:Cx}{st:cF}{rest:List cF}{t u:TS}{e:Expr}{te:TE}{pos:Pos}
def QM:TS:=fun D σ H=>D.nx σ H
def Ta(t u:TS):TS:=fun D σ H=>t {D with nx:=u D} σ H
theorem s9:B8 X [] QM:=fun _ _ σ H _ I h=>wu ⟨σ,H,I,h⟩
theorem dh(h1:PS X st t)(h2:B8 X rest u):B8 X (st::rest) (Ta t u):=by
 intro pins s σ H D I h;refine wpAny_execs_cons (fx (h1 pins s σ H {D with nx:=u D} I h) fun f s1 q=> ?_);cases f with
 | next=>
  obtain⟨fA,H',I',q⟩:=q;exact h2 pins s1 fA H' D I' q
 | ret v=>exact q
 | brk=>exact q
 | cont=>exact q
theorem qv(h1:PS X st t):B8 X [st] t:=by
 intro pins s σ H D I h;refine wpAny_execs_cons (fx (h1 pins s σ H D I h) fun f s1 q=> ?_);cases f with
 | next=>exact wu q
 | ret v=>exact q
 | brk=>exact q
 | cont=>exact q
theorem Inv.quiet{pins:List (ai×Obj)}{σ:St}{H:Hp}{s:aj}(I:Inv X pins σ H s):interactive X.env=false:=by simp [interactive,I.ok.kind]
def Qu(te:TE):TS:=fun D σ H=>te σ H fun _ H1=>D.nx σ H1
theorem oQ(he:PE X e te)(hs:cu e none pos.line X.env=pure false:=by rfl):PS X (.Expr e pos) (Qu te):=by
 intro pins s σ H D I h;exact wpAny_Expr_any (fx (he pins s σ H _ I h) fun v s1 ⟨x,H1,I1,r1,q1⟩=>⟨σ,H1,I1,q1⟩) I.quiet hs
def TJ(te:TE):TS:=fun D σ H=>te σ H D.rt
theorem Oy(he:PE X e te):PS X (.Return (some e) pos) (TJ te):=by
 intro pins s σ H D I h;exact wpAny_Return_some (fx (he pins s σ H _ I h) fun v s1 ⟨x,H1,I1,r1,q1⟩=>⟨x,σ,H1,I1,r1,q1⟩)
def T_(c:TT)(t u:TS):TS:=fun D σ H=>c σ H fun b H1=>if b=true then t D σ H1 else u D σ H1
theorem DS{c:Expr}{a b:List cF}{tc:TT}(hc:PT X c tc)(ha:B8 X a t)(hb:B8 X b u):PS X (.If c a b pos) (T_ tc t u):=by
 intro pins s σ H D I h;refine wpAny_If (fx (hc pins s σ H _ I h) fun d s1 ⟨H1,I1,q1⟩=> ?_);cases d with
 | true=>exact ha pins s1 σ H1 D I1 q1
 | false=>exact hb pins s1 σ H1 D I1 q1
end
abbrev TG:=V->St->Hp->(St->Hp->Prop)->Prop
def PG(X:Cx)(target:Expr)(t:TG):Prop:=
 ∀(pins:List (ai×Obj)) (s:aj) (σ:St) (H:Hp) (v:V) (u:af) (Q:St->Hp->Prop),Inv X pins σ H s->RelV v u->t v σ H Q->
  av (aC X.prog X.w) X.A (lL target X.env u) (fun _ s'=> ∃fA H',Inv X pins fA H' s'/\Q fA H') X.xe s
abbrev Oi:=V->V->V->Hp->(Hp->Prop)->Prop
def P0(X:Cx)(t:Oi):Prop:=
 ∀(pins:List (ai×Obj)) (s:aj) (σ:St) (H:Hp) (o i v:V) (ov iv u:af) (Q:Hp->Prop),Inv X pins σ H s->RelV o ov->RelV i iv->RelV v u->t o i v H Q->
  av (aC X.prog X.w) X.A (setItem ov iv u) (fun _ s'=> ∃H',Inv X pins σ H' s'/\Q H') X.xe s
section
variable {X:Cx}{pos:Pos}
def M3(i:Nat):TG:=fun v σ H Q=>Q (σ.set i (some v)) H
theorem sL{i:Nat}{x:Str}(hN:X.N.Nodup)(hi:X.N[i]? =some x)(hx:Loc X.env.scope x)(hf:X.fn x=true\/X.env.scope.names.lookup x=some .local:=by first | exact .inl rfl | exact .inr rfl | assumption):PG X (.Name x pos) (M3 i):=by
 intro pins s σ H v u Q I r h;exact KQ (Aw I hN hi hx r (fun s' I'=>⟨_,H,I',h⟩) hf)
def Tr(to ti:TE)(t:Oi):TG:=fun v σ H Q=>to σ H fun o H1=>ti σ H1 fun i H2=>t o i v H2 fun H3=>Q σ H3
theorem OM{o i:Expr}{to ti:TE}{t:Oi}(ho:PE X o to)(hi:PE X i ti)(hs:P0 X t)
  (ha: ∀v,lL (.Subscript o i pos) X.env v=(do
   let ov<-kX [v] (bV o X.env)
   let iv<-kX [v,ov] (bV i X.env)
   standAt pos
   kX [v,ov,iv] (setItem ov iv v)
   release [v,ov,iv] []):=by intro _; rfl):PG X (.Subscript o i pos) (Tr to ti t):=by
 intro pins s σ H v u Q I r h;rw [ha];refine aa (bP (fx (ho pins s σ H _ I h) fun ov s1 ⟨x,H1,I1,r1,q1⟩=> ?_));refine aa (bP (fx (hi pins s1 σ H1 _ I1 q1) fun iv s2 ⟨y,H2,I2,r2,q2⟩=> ?_));refine aa (mL (aa (bP (fx (hs pins s2 σ H2 x y v ov iv u _ I2 r1 r2 r q2) fun _ s3 ⟨H3,I3,q3⟩=> ?_))));exact wpAny_release ⟨σ,H3,I3,q3⟩
def P9(te:TE)(g:TG):TS:=fun D σ H=>te σ H fun x H1=>g x σ H1 D.nx
theorem Oj{tg e:Expr}{te:TE}{g:TG}(he:PE X e te)(hg:PG X tg g)(hs:swapsWithSole [tg] e pos.line X.env=pure false:=by rfl)(hw:swappedStores [tg] e X.env=pure none:=by rfl)
  (h1:(assignEach [tg] X.env).map (·.2)= [lL tg X.env]:=by rfl):PS X (.Assign [tg] e pos) (P9 te g):=by
 intro pins s σ H D I h;refine wpAny_Assign_stores (fx (he pins s σ H _ I h) fun v s1 ⟨x,H1,I1,r1,q1⟩=> ?_) hs hw;rw [h1];exact fx (hg pins s1 σ H1 x v _ I1 r1 q1) fun _ s2 q=>q
theorem nB{i:Nat}{x:Str}{e:Expr}{te:TE}{pos':Pos}(hN:X.N.Nodup)(hi:X.N[i]? =some x)(hx:Loc X.env.scope x)(he:PE X e te)(hs:cu e (some (.Name x pos')) pos.line X.env=pure false:=by rfl)(hf:X.fn x=true\/X.env.scope.names.lookup x=some .local:=by first | exact .inl rfl | exact .inr rfl | assumption):
  PS X (.Assign [.Name x pos'] e pos) (P9 te (M3 i)):=by
 intro pins s σ H D I h;refine wpAny_Assign_Name (fx (he pins s σ H _ I h) fun v s1 ⟨y,H1,I1,r1,q1⟩=> ?_) hs;exact Aw I1 hN hi hx r1 (fun s2 I2=>⟨_,H1,I2,q1⟩) hf
end
section
variable {X:Cx}{pos:Pos}
def N_(c:TT)(tb:TS):TS:=fun D σ H=> ∃W:Nat->St->Hp->Prop,(∃m,W m σ H)/\ ∀m σ H,W m σ H->
 c σ H fun b H1=>if b=true then ∃N:St->Hp->Prop,(∀fA H',N fA H'-> ∃m',m' < m/\W m' fA H')/\tb {D with nx:=N,ct:=N,bk:=D.nx} σ H1 else D.nx σ H1
theorem zq{c:Expr}{body:List cF}{tc:TT}{tb:TS}(hp:vz (aC X.prog X.w) X.A X.env X.xe)(hc:PT X c tc)(hb:B8 X body tb):PS X (.While c body [] pos) (N_ tc tb):=by
 intro pins s σ H D I h;obtain⟨W,⟨m0,w0⟩,turn⟩:=h;refine wpAny_While (codeAny_whileLoop (fun n s'=> ∃fA H',Inv X pins fA H' s'/\W n fA H') ?_ m0 ⟨σ,H,I,w0⟩);rintro n s1 ⟨σ1,H1,I1,w1⟩;refine iV hp (fx (hc pins s1 σ1 H1 _ I1 (turn n σ1 H1 w1)) fun b s2 ⟨H2,I2,q2⟩=> ?_);cases b with
 | true=>
  obtain⟨N,hN,q2⟩:=q2;rw [if_pos rfl];refine iV hp (fx (hb pins s2 σ1 H2 _ I2 q2) fun f s3 q3=> ?_);cases f with
  | next=>
   obtain⟨Km,H3,I3,n3⟩:=q3;obtain⟨m',hm,w3⟩:=hN Km H3 n3;exact⟨m',hm,Km,H3,I3,w3⟩
  | cont=>
   obtain⟨Km,H3,I3,n3⟩:=q3;obtain⟨m',hm,w3⟩:=hN Km H3 n3;exact⟨m',hm,Km,H3,I3,w3⟩
  | brk=>exact q3
  | ret v=>exact q3
 | false=>
  rw [if_neg aG];exact wu ⟨σ1,H2,I2,q2⟩
end
structure It where
 go:Nat->Hp->Prop
 TB:Nat->Hp->V->Hp->Prop
 stop:Nat->Hp->Prop
def ko(X:Cx)(pins:List (ai×Obj))(H:Hp)(b:ai):Prop:=
 H b=none/\b≠X.env.locals/\b∉X.fs/\(b∈X.ex\/X.s₀.heap.objs.size<=b)/\(∀x c,X.env.cells.lookup x=some c->c≠b)/\ ∀p∈X.pn ++ pins,p.1≠b
theorem Inv.fpOk{X:Cx}{pins:List (ai×Obj)}{σ:St}{H H':Hp}{s:aj}{b:ai}(I:Inv X pins σ H s)(hb:s.heap.objs.size<=b)(hn:H' b=none):ko X pins H' b:=by
 refine⟨hn,b9 (bB I.lt hb),I.nofs hb, .inr (bg I.sz hb),fun x c e z=> ?_,fun p hp z=> ?_⟩
 ·obtain⟨v,q⟩:=I.cell x c e;exact absurd (bB q.lt (by rw [z]; exact hb)) (fv _)
 ·exact absurd (bB (az (I.pin p hp).1) (by rw [z]; exact hb)) (fv _)
structure Turn(P:aH)(w:aW)(K:aQ)(tg:Expr)(J:It)(fp:List ai)(it:ai)(tn:Nat->aY->Prop):Prop where
 mem:it∈fp
 obj: ∀i h,tn i h-> ∀b∈fp, ∃o,h.get? b=some o/\ ∀v,o.data≠ .cell v
 keep: ∀i h h',tn i h->(∀b∈fp, ∀o,h.get? b=some o->h'.get? b=some o)->tn i h'
 item: ∀(X:Cx),X.prog=P->X.w=w->X.K=K->X.calm=true-> ∀(i:Nat) (pins:List (ai×Obj)) (s:aj) (σ:St) (H:Hp) (E:af->aj->Prop),Inv X pins σ H s->(∀b∈fp,ko X pins H b)->tn i s.heap->J.go i H->
  av (aC P w) X.A (jb (.ref it)) (fun r s1=> ∃u,r=some u/\
   av (aC P w) X.A (oX tg (.ref it) u) (fun _ s2=> ∃x H',Inv X pins σ H' s2/\RelV x u/\J.TB i H x H'/\tn (i+1) s2.heap/\ ∀b∈fp,H' b=none) E s1) E s
 done: ∀(X:Cx),X.prog=P->X.w=w->X.K=K->X.calm=true-> ∀(i:Nat) (pins:List (ai×Obj)) (s:aj) (σ:St) (H:Hp) (E:af->aj->Prop),Inv X pins σ H s->(∀b∈fp,ko X pins H b)->tn i s.heap->J.stop i H->
  av (aC P w) X.A (jb (.ref it)) (fun r s1=>r=none/\Inv X pins σ H s1) E s
 self: ∀(A:bA) (i:Nat) (s:aj) (Q:af->aj->Prop) (E:af->aj->Prop),tn i s.heap->Q (.ref it) s->av (aC P w) A (vA (.ref it)) Q E s
abbrev TI:=St->Hp->(It->Hp->Prop)->Prop
def TZ(X:Cx)(pins:List (ai×Obj))(σ:St)(tg:Expr)(R:It->Hp->Prop)(PM:af)(s2:aj):Prop:=
 ∃(it:ai) (fp:List ai) (tn:Nat->aY->Prop) (J:It) (H':Hp),PM= .ref it/\Inv X pins σ H' s2/\Turn X.prog X.w X.K tg J fp it tn/\tn 0 s2.heap/\(∀b∈fp,ko X pins H' b)/\R J H'
def PI(X:Cx)(tg iter:Expr)(wi:TI):Prop:=
 ∀(pins:List (ai×Obj)) (s:aj) (σ:St) (H:Hp) (R:It->Hp->Prop),Inv X pins σ H s->wi σ H R->
  av (aC X.prog X.w) X.A (bV iter X.env) (fun v s1=>av (aC X.prog X.w) X.A (vA v) (TZ X pins σ tg R) X.xe s1) X.xe s
theorem Gv{M:Model}{A:bA}{E:af->aj->Prop}{s:aj}{tg:Expr}{it:ai}{u:af}{o:Obj}{n:String}{vs:Array af}{Q:Unit->aj->Prop}(ho:s.heap.get? it=some o)(hc:o.cls= .type n)(hd:o.data= .fields vs)
    (hn: ["enumerate","zip","dict_itemiterator","dict_reverseitemiterator","odict_iterator","itertools.zip_longest","itertools.pairwise"].contains n=false)(hQ:Q () s):av M A (oX tg (.ref it) u) Q E s:=by
  unfold oX;cases tg <;> first
    | exact ag hQ
    | (cases u <;> first
        | exact ag hQ
        | (refine aa (wpAny_load ho ?_)
           rw [hc,hd];show av M A (if(["enumerate","zip","dict_itemiterator","dict_reverseitemiterator","odict_iterator","itertools.zip_longest","itertools.pairwise"].contains n&&vs[0]? ==some (fm _))=true then _ else _) Q E s;rw [if_neg (by intro h; rw [hn,fC]at h; cases h)];exact ag hQ))
def Ud(K:aQ)(a:ai):It:=
 ⟨fun i H=> ∃xs x,o6 K H a xs/\xs[i]? =some x,fun i H x H'=>H'=H/\ ∀xs,o6 K H a xs->xs[i]? =some x,fun i H=> ∃xs,o6 K H a xs/\xs.length<=i⟩
def Tu(K:aQ)(a:ai):It:=
 ⟨fun i H=> ∃xs x,k9 K H a xs/\xs[i]? =some x,fun i H x H'=>H'=H/\ ∀xs,k9 K H a xs->xs[i]? =some x,fun i H=> ∃xs,k9 K H a xs/\xs.length<=i⟩
def QQ(lo:Int)(n:Nat):It:=⟨fun i _=>i < n,fun i H x H'=>H'=H/\x= .int (lo+i),fun i _=>n<=i⟩
theorem E2{P:aH}{w:aW}{K:aQ}{tg:Expr}(a it:ai):Turn P w K tg (Ud K a) [it] it (fun i h=>h.IsListIter it a i) where
 mem:=by simp
 obj:=fun i h st b hb=>by
  have e:b=it:=by simpa using hb
  subst e;obtain⟨o,e,c,d⟩:=st;exact⟨o,e,fun v z=>by rw [d]at z; cases z⟩
 keep:=fun i h h' st k=>st.at fun o e=>k it (by simp) o e
 item:=by
  intro X hP hw hK hc i pins s σ H E I hf st hg;subst hP hw hK;obtain⟨xs,x,hq,hx⟩:=hg;obtain⟨its,rv,p,hz⟩:=I.list hq;obtain⟨u,hu,ru⟩:=rv.get hx;obtain⟨f0,f1,f2,f3,f4,f5⟩:=hf it (by simp);refine wpAny_pyNext_list_item st p.isList (x:=u) (by simpa using hu) fun h' cq sb=> ?_;have I1:Inv X pins σ H {s with heap:=h'}:=I.turned (t':=s.toks) (fun b o hb e=>(sb.2 b hb).trans e) f0 f1 f3 f4 f5;obtain⟨o,e,c,d⟩:=id cq;exact⟨u,rfl,Gv (s:={s with heap:=h'}) e c d (by decide) ⟨x,H,I1,ru,⟨rfl,fun ys hy=>by rw [I.list_inj hy hq]; exact hx⟩,cq,fun b hb=>(hf b hb).1⟩⟩
 done:=by
  intro X hP hw hK hc i pins s σ H E I hf st hg;subst hP hw hK;obtain⟨xs,hq,hx⟩:=hg;obtain⟨its,rv,p,hz⟩:=I.list hq;obtain⟨f0,f1,f2,f3,f4,f5⟩:=hf it (by simp);have hl:=rv.length;exact wpAny_pyNext_list_end (I.ok.hd hc) st p.isList (by simp; omega) fun h' eb=>⟨rfl,I.turned (t':=s.toks) (fun b o hb e=>eb b o hb e) f0 f1 f3 f4 f5⟩
 self:=fun _ _ _ _ _ st h=>wpAny_pyIter_listiter st h
theorem BU{P:aH}{w:aW}{K:aQ}{tg:Expr}(a it:ai):Turn P w K tg (Tu K a) [it] it (fun i h=>h.IsTupleIter it a i) where
 mem:=by simp
 obj:=fun i h st b hb=>by
  have e:b=it:=by simpa using hb
  subst e;obtain⟨o,e,c,d⟩:=st;exact⟨o,e,fun v z=>by rw [d]at z; cases z⟩
 keep:=fun i h h' st k=>st.at fun o e=>k it (by simp) o e
 item:=by
  intro X hP hw hK hc i pins s σ H E I hf st hg;subst hP hw hK;obtain⟨xs,x,hq,hx⟩:=hg;obtain⟨its,rv,p,hz⟩:=I.tuple hq;obtain⟨u,hu,ru⟩:=rv.get hx;obtain⟨f0,f1,f2,f3,f4,f5⟩:=hf it (by simp);refine wpAny_pyNext_tuple_item st (show s.heap.IsTuple a its.toArray from p) (x:=u) (by simpa using hu) fun h' cq sb=> ?_;have I1:Inv X pins σ H {s with heap:=h'}:=I.turned (t':=s.toks) (fun b o hb e=>(sb.2 b hb).trans e) f0 f1 f3 f4 f5;obtain⟨o,e,c,d⟩:=id cq;exact⟨u,rfl,Gv (s:={s with heap:=h'}) e c d (by decide) ⟨x,H,I1,ru,⟨rfl,fun ys hy=>by rw [I.tuple_inj hy hq]; exact hx⟩,cq,fun b hb=>(hf b hb).1⟩⟩
 done:=by
  intro X hP hw hK hc i pins s σ H E I hf st hg;subst hP hw hK;obtain⟨xs,hq,hx⟩:=hg;obtain⟨its,rv,p,hz⟩:=I.tuple hq;obtain⟨f0,f1,f2,f3,f4,f5⟩:=hf it (by simp);have hl:=rv.length;exact wpAny_pyNext_tuple_end (I.ok.hd hc) st (show s.heap.IsTuple a its.toArray from p) (by simp; omega) fun h' eb=>⟨rfl,I.turned (t':=s.toks) (fun b o hb e=>eb b o hb e) f0 f1 f3 f4 f5⟩
 self:=fun _ _ _ _ _ st h=>wpAny_pyIter_tupleiter st h
theorem BQ{P:aH}{w:aW}{K:aQ}{tg:Expr}(it:ai)(lo:Int)(n:Nat):Turn P w K tg (QQ lo n) [it] it (fun i h=>IsRangeIter h it (lo+(i:Nat) * 1) ((n:Int) - (i:Nat)) 1) where
 mem:=by simp
 obj:=fun i h st b hb=>by
  have e:b=it:=by simpa using hb
  subst e;exact⟨_,st,fun v z=>by
   have z':Data.fields _=Data.cell v:=z;cases z'⟩
 keep:=fun i h h' st k=>k it (by simp) _ st
 item:=by
  intro X hP hw hK hc i pins s σ H E I hf st hg;subst hP hw hK;obtain⟨f0,f1,f2,f3,f4,f5⟩:=hf it (by simp);have W:=Walks.range (prog:=X.prog) (w:=X.w) (I.ok.hd hc) it lo 1 n;refine W.item i s _ _ hg st fun v h' tk hv cq kk=> ?_;obtain⟨t,rfl⟩:=hv;have I1:Inv X pins σ H {s with heap:=h',toks:=tk}:=I.turned (fun b o hb e=>kk b o (by simpa using hb) e) f0 f1 f3 f4 f5;refine⟨_,rfl,Gv (s:={s with heap:=h',toks:=tk}) (n:="range_iterator") cq rfl rfl (by decide) ⟨.int (lo+i),H,I1,⟨t, ?_⟩,⟨rfl,rfl⟩,cq,fun b hb=>(hf b hb).1⟩⟩;rw [Int.mul_one]
 done:=by
  intro X hP hw hK hc i pins s σ H E I hf st hg;subst hP hw hK;obtain⟨f0,f1,f2,f3,f4,f5⟩:=hf it (by simp);exact wpAny_pyNext_range_end (I.ok.hd hc) st (by have:n<=i:=hg; omega) fun h' eb=>⟨rfl,I.turned (t':=s.toks) (fun b o hb e=>eb b o hb e) f0 f1 f3 f4 f5⟩
 self:=fun _ _ _ _ _ st h=>wpAny_pyIter_rangeiter st h
end L2
namespace L2
open PySem PySem.Spec PyProof.Rows
section
variable {X:Cx}{tg:Expr}
def Qg(K:aQ)(tl:TE):TI:=fun σ H R=>tl σ H fun x H1=> ∃a,x= .ref a/\(∃xs,o6 K H1 a xs)/\R (Ud K a) H1
def Ue(K:aQ)(tl:TE):TI:=fun σ H R=>tl σ H fun x H1=> ∃a,x= .ref a/\(∃xs,k9 K H1 a xs)/\R (Tu K a) H1
theorem Dx{l:Expr}{tl:TE}(hl:PE X l tl):PI X tg l (Qg X.K tl):=by
 intro pins s σ H R I h;refine fx (hl pins s σ H _ I h) fun v s1 ⟨x,H1,I1,r1,q1⟩=> ?_;obtain⟨a,e,⟨xs,hq⟩,q⟩:=q1;subst e;cases r1;obtain⟨its,rv,p,hz⟩:=I1.list hq;refine sr p.isList ?_;refine⟨s1.heap.objs.size, [s1.heap.objs.size],_,_,H1,rfl,I1.kept (t':=s1.toks) fun b o e=>ah _ e,E2 a _,⟨_,aw _ rfl,rfl,rfl⟩,fun b hb=> ?_,q⟩;have e:b=s1.heap.objs.size:=by simpa using hb
 subst e;exact I1.fpOk (ay _) (I1.fb.fresh (ay _))
theorem OS{l:Expr}{tl:TE}(hl:PE X l tl):PI X tg l (Ue X.K tl):=by
 intro pins s σ H R I h;refine fx (hl pins s σ H _ I h) fun v s1 ⟨x,H1,I1,r1,q1⟩=> ?_;obtain⟨a,e,⟨xs,hq⟩,q⟩:=q1;subst e;cases r1;obtain⟨its,rv,p,hz⟩:=I1.tuple hq;refine Kn (show s1.heap.IsTuple a its.toArray from p) ?_;refine⟨s1.heap.objs.size, [s1.heap.objs.size],_,_,H1,rfl,I1.kept (t':=s1.toks) fun b o e=>ah _ e,BU a _,⟨_,aw _ rfl,rfl,rfl⟩,fun b hb=> ?_,q⟩;have e:b=s1.heap.objs.size:=by simpa using hb
 subst e;exact I1.fpOk (ay _) (I1.fb.fresh (ay _))
theorem AM{pins:List (ai×Obj)}{σ:St}{H:Hp}{s:aj}{R:It->Hp->Prop}{E:af->aj->Prop}{lo hi:Int}{t u v:Tok}{tk:Nat}(I:Inv X pins σ H s)(h1: -(2 ^ 62)<=lo)(h2:lo < 2 ^ 62)(h3: -(2 ^ 62)<=hi)(h4:hi < 2 ^ 62)
  (q:R (QQ lo (hi - lo).toNat) H):av (aC X.prog X.w) X.A (vA (.ref s.heap.objs.size)) (TZ X pins σ tg R) E {s with heap:=s.heap.push {cls:= .type "range",data:= .fields #[.int lo t, .int hi u, .int 1 v]},toks:=tk}:=by
 refine wpAny_pyIter_range (IsRange.new ..) (small_one h1 h2 h3 h4) ?_;have I1:Inv X pins σ H {s with heap:=s.heap.push {cls:= .type "range",data:= .fields #[.int lo t, .int hi u, .int 1 v]},toks:=tk}:=I.kept fun b o e=>ah _ e;refine⟨(s.heap.push {cls:= .type "range",data:= .fields #[.int lo t, .int hi u, .int 1 v]}).objs.size, [(s.heap.push {cls:= .type "range",data:= .fields #[.int lo t, .int hi u, .int 1 v]}).objs.size],_,_,H,rfl,
  I1.kept (t':=tk) fun b o e=>ah _ e,BQ _ lo (hi - lo).toNat, ?_,fun b hb=> ?_,q⟩
 ·have e1:lo+((0:Nat):Int) * 1=lo:=by simp
  have e2:(((hi - lo).toNat:Nat):Int) - ((0:Nat):Int)=Builtin.Range.rangeSize lo hi 1:=by rw [rangeSize_one]; split <;> omega
  show IsRangeIter _ _ (lo+((0:Nat):Int) * 1) ((((hi - lo).toNat:Nat):Int) - ((0:Nat):Int)) 1;rw [e1,e2];exact aw _ rfl
 ·have e:b=(s.heap.push {cls:= .type "range",data:= .fields #[.int lo t, .int hi u, .int 1 v]}).objs.size:=by simpa using hb
  subst e;exact I1.fpOk (ay _) (I1.fb.fresh (ay _))
def Qa(ta:TA):TI:=fun σ H R=>ta σ H fun vs H1=> ∃j:Int,vs= [.int j]/\ -(2 ^ 62)<=j/\j < 2 ^ 62/\R (QQ 0 j.toNat) H1
def Qn(ta:TA):TI:=fun σ H R=>ta σ H fun vs H1=> ∃i j:Int,vs= [.int i, .int j]/\(-(2 ^ 62)<=i/\i < 2 ^ 62/\ -(2 ^ 62)<=j/\j < 2 ^ 62)/\R (QQ i (j - i).toNat) H1
theorem Fu{a:Expr}{ta:TA}{p pos:Pos}(hg:Gl X "range")(hm:X.mg "range"=none)(ha:PA X [a] ta)(hs:ax [a] X.env= [(false,bV a X.env)]:=by rfl):PI X tg (.Call (.Name "range" p) [a] [] pos) (Qa ta):=by
 intro pins s σ H R I h;refine Call_ (rd I hg hm boot_range (kY (fx (ha pos pins s σ H _ I h) fun us s1 ⟨vs,H1,I1,r1,q1⟩=> ?_) hs rfl));obtain⟨j,e,q1,q2,q⟩:=q1;subst e;cases r1 with
 | cons r rr=>
  cases rr;obtain⟨t,rfl⟩:=r;exact call_range_1 (AM I1 (by omega) (by omega) q1 q2 (by simpa using q))
theorem ET{a b:Expr}{ta:TA}{p pos:Pos}(hg:Gl X "range")(hm:X.mg "range"=none)(ha:PA X [a,b] ta)(hs:ax [a,b] X.env= [(false,bV a X.env),(false,bV b X.env)]:=by rfl)(By:ax [b] X.env= [(false,bV b X.env)]:=by rfl):
  PI X tg (.Call (.Name "range" p) [a,b] [] pos) (Qn ta):=by
 intro pins s σ H R I h;refine Call_ (rd I hg hm boot_range (kY (fx (ha pos pins s σ H _ I h) fun us s1 ⟨vs,H1,I1,r1,q1⟩=> ?_) (by rw [hs,By]) (by rw [By]; rfl)));obtain⟨i,j,e,⟨q1,q2,q3,q4⟩,q⟩:=q1;subst e;cases r1 with
 | cons r rr=>
  cases rr with
  | cons r' rr=>
   cases rr;obtain⟨t,rfl⟩:=r;obtain⟨t',rfl⟩:=r';exact call_range_2 (AM I1 q1 q2 q3 q4 q)
def Th(wi:TI)(g:TG)(tb:TS):TS:=fun D σ H=>wi σ H fun J H1=> ∃W:Nat->Nat->St->Hp->Prop,(∃m,W 0 m σ H1)/\ ∀i m σ H,W i m σ H->
 (J.stop i H/\D.nx σ H)\/(J.go i H/\ ∃N:St->Hp->Prop,(∀fA H',N fA H'-> ∃m',m' < m/\W (i+1) m' fA H')/\ ∀x H',J.TB i H x H'->g x σ H' fun KO H2=>tb {D with nx:=N,ct:=N,bk:=D.nx} KO H2)
def yI(fp:List ai)(h:aY):List (ai×Obj):=fp.filterMap fun b=>(h.get? b).map fun o=>(b,o)
theorem gX{fp:List ai}{h:aY}{b:ai}{o:Obj}(hb:b∈fp)(e:h.get? b=some o):(b,o)∈yI fp h:=Ko.mpr ⟨b,hb,by rw [e]; rfl⟩
theorem E7{fp:List ai}{h:aY}{p:ai×Obj}(hp:p∈yI fp h):p.1∈fp/\h.get? p.1=some p.2:=by
 obtain⟨b,hb,e⟩:=Ko.mp hp;cases q:h.get? b with
 | none=>rw [q]at e; cases e
 | some o=>
  rw [q]at e;have e':(b,o)=p:=aF e;subst e';exact⟨hb,q⟩
theorem Inv.pinned{pins:List (ai×Obj)}{σ:St}{H:Hp}{s:aj}{fp:List ai}(I:Inv X pins σ H s)(hf: ∀b∈fp,ko X pins H b)(ho: ∀b∈fp, ∃o,s.heap.get? b=some o/\ ∀v,o.data≠ .cell v):Inv X (pins ++ yI fp s.heap) σ H s:=
 I.pins_of fun p hp=>(bO.mp hp).elim (fun z=>I.pin p (a_ _ z)) fun z=>by
  obtain⟨hb,e⟩:=E7 z;obtain⟨f0,f1,f2,_⟩:=hf p.1 hb;obtain⟨o,e',d⟩:=ho p.1 hb;rw [e]at e'; cases e';exact⟨e,f0,f1,f2,d⟩
theorem Inv.unpinned{pins pl:List (ai×Obj)}{σ:St}{H:Hp}{s:aj}(I:Inv X (pins ++ pl) σ H s):Inv X pins σ H s:=I.pins_of fun p hp=>I.pin p (a_ _ (fU _ hp))
theorem Jw{iter:Expr}{body:List cF}{wi:TI}{g:TG}{tb:TS}{pos:Pos}(hp:vz (aC X.prog X.w) X.A X.env X.xe)(hc:X.calm=true)(hi:PI X tg iter wi)(hg:PG X tg g)(hb:B8 X body tb)
  (hs: ∀x,fW iter X.env x=pure x:=by intro _; rfl):PS X (.For tg iter body [] pos) (Th wi g tb):=by
 intro pins s σ H D I h;refine wpAny_For (fx (hi pins s σ H _ I h) fun v s1 h1=>fx h1 fun PM s2 h2=> ?_) hs;obtain⟨it,fp,tn,J,H2,e,I2,T,mY,f2,W,⟨m0,w0⟩,turn⟩:=h2;subst e;have Pe: ∀{H':Hp},(∀b∈fp,H' b=none)-> ∀b∈fp,ko X pins H' b:=fun hn b hb=>⟨hn b hb,(f2 b hb).2⟩;refine codeAny_forLoop_any (fun n s'=> ∃i fA H',Inv X pins fA H' s'/\tn i s'.heap/\(∀b∈fp,H' b=none)/\W i n fA H') ?_ m0 ⟨0,σ,H2,I2,mY,fun b hb=>(f2 b hb).1,w0⟩;rintro n s3 ⟨i,Km,H3,I3,sj,fr3,w3⟩
 rcases turn i n Km H3 w3 with⟨stop,qn⟩ | ⟨go,N,hN,step⟩
 ·refine iV hp (fx (T.done X rfl rfl rfl hc i pins s3 Km H3 X.xe I3 (Pe fr3) sj stop) fun r s4 ⟨hr,I4⟩=> ?_);subst hr;exact wu ⟨Km,H3,I4,qn⟩
 ·refine iV hp (fx (T.item X rfl rfl rfl hc i pins s3 Km H3 X.xe I3 (Pe fr3) sj go) fun r s4 ⟨u,hr,h4⟩=> ?_);subst hr;refine iV hp (fx h4 fun _ s5 ⟨x,H5,I5,r5,y5,st5,fr5⟩=> ?_);have Rc:=I5.pinned (Pe fr5) (T.obj _ _ st5);refine iV hp (fx (hg _ s5 Km H5 x u _ Rc r5 (step x H5 y5)) fun _ s6 ⟨O7,H6,I6,q6⟩=> ?_);refine iV hp (fx (hb _ s6 O7 H6 _ I6 q6) fun f s7 q7=> ?_);have again: ∀{J8:St} {H7:Hp},Inv X (pins ++ yI fp s5.heap) J8 H7 s7->N J8 H7-> ∃m,m < n/\ ∃i fA H',Inv X pins fA H' s7/\tn i s7.heap/\(∀b∈fp,H' b=none)/\W i m fA H':=fun{J8 H7} I7 n7=>by
   obtain⟨m',hm,w7⟩:=hN J8 H7 n7;refine⟨m',hm,i+1,J8,H7,I7.unpinned,T.keep _ _ _ st5 fun b hb o e=>(I7.pin (b,o) (a_ _ (a_ _ (gX hb e)))).1,fun b hb=> ?_,w7⟩;obtain⟨o,e,d⟩:=T.obj _ _ st5 b hb;exact(I7.pin (b,o) (a_ _ (a_ _ (gX hb e)))).2.1
  cases f with
  | next=>obtain⟨J8,H7,I7,n7⟩:=q7; exact again I7 n7
  | cont=>obtain⟨J8,H7,I7,n7⟩:=q7; exact again I7 n7
  | brk=>obtain⟨J8,H7,I7,q7⟩:=q7; exact⟨J8,H7,I7.unpinned,q7⟩
  | ret v=>obtain⟨x7,J8,H7,I7,r7,q7⟩:=q7; exact⟨x7,J8,H7,I7.unpinned,r7,q7⟩
end
end L2
namespace L2
open PySem PySem.Spec PyProof.Rows
abbrev R2:=V->V->Hp->VK->Prop
def oP(X:Cx)(f:af->af->Sem af)(r:R2):Prop:=
 ∀(pins:List (ai×Obj)) (s:aj) (σ:St) (H:Hp) (x y:V) (v u:af) (Q:VK),Inv X pins σ H s->RelV x v->RelV y u->r x y H Q->
  av (aC X.prog X.w) X.A (f v u) (EP X pins σ Q) X.xe s
def gW(X:Cx)(f:af)(r:List V->Hp->VK->Prop):Prop:=
 ∀(pins:List (ai×Obj)) (s:aj) (σ:St) (H:Hp) (xs:List V) (us:List af) (Q:VK),Inv X pins σ H s->Vals xs us->r xs H Q->
  av (aC X.prog X.w) X.A (call f us) (EP X pins σ Q) X.xe s
def Sh(r:R2)(ta tb:TE):TE:=fun σ H Q=>ta σ H fun x H1=>tb σ H1 fun y H2=>r x y H2 Q
def rI(C:Int->Int->Prop)(g:Int->Int->V):R2:=fun x y H Q=> ∃i j,x= .int i/\y= .int j/\C i j/\Q (g i j) H
def LS(g:Int->Int->V):R2:=fun x y H Q=> ∃i j,x= .int i/\y= .int j/\Q (g i j) H
section
variable {X:Cx}{a b c:Expr}{ta tb tc:TE}{pos:Pos}
theorem Oq(ha:PE X a ta)(hb:PE X b tb){pins:List (ai×Obj)}{s:aj}{σ:St}{H:Hp}{R:V->V->Hp->Prop}(I:Inv X pins σ H s)
  (h:ta σ H fun x H1=>tb σ H1 fun y H2=>R x y H2){Q:af->aj->Prop}{f:af->af->Sem af}
  (hf: ∀v u s2 x y H2,Inv X pins σ H2 s2->RelV x v->RelV y u->R x y H2->av (aC X.prog X.w) X.A (f v u) Q X.xe s2):
  av (aC X.prog X.w) X.A (bV a X.env) (fun v eK=>av (aC X.prog X.w) X.A (bV b X.env) (fun u cE=>av (aC X.prog X.w) X.A (f v u) Q X.xe cE) X.xe eK) X.xe s:=by
 refine fx (ha pins s σ H _ I h) fun v s1 ⟨x,H1,I1,r1,q1⟩=> ?_;refine fx (hb pins s1 σ H1 _ I1 q1) fun u s2 ⟨y,H2,I2,r2,q2⟩=> ?_;exact hf v u s2 x y H2 I2 r1 r2 q2
theorem Jh{op:Operator}{r:R2}(ho:oP X (ku op) r)(ha:PE X a ta)(hb:PE X b tb):PE X (.BinOp a op b pos) (Sh r ta tb):=by
 intro pins s σ H Q I h;exact wpAny_BinOp (Oq ha hb I h fun v u s2 x y H2 I2 rx ry q=>ho pins s2 σ H2 x y v u Q I2 rx ry q)
theorem S8{f:af->af->Sem af}{C:Int->Int->Prop}{g:Int->Int->Int}
  (rule: ∀(i j:Int) (t u:Tok) (s:aj) (Q:af->aj->Prop) (E:af->aj->Prop),C i j->Q (.int (g i j) s.toks) {s with toks:=s.toks+1}->av (aC X.prog X.w) X.A (f (.int i t) (.int j u)) Q E s):
  oP X f (rI C fun i j=> .int (g i j)):=by
 intro pins s σ H x y v u Q I rx ry h;obtain⟨i,j,rfl,rfl,hc,q⟩:=h;obtain⟨t,rfl⟩:=rx;obtain⟨t',rfl⟩:=ry;exact rule i j t t' s _ _ hc ⟨.int (g i j),H,I.tok _,⟨_,rfl⟩,q⟩
theorem P4{f:af->af->Sem af}{g:Int->Int->Int}
  (rule: ∀(i j:Int) (t u:Tok) (s:aj) (Q:af->aj->Prop) (E:af->aj->Prop),Q (.int (g i j) s.toks) {s with toks:=s.toks+1}->av (aC X.prog X.w) X.A (f (.int i t) (.int j u)) Q E s):
  oP X f (LS fun i j=> .int (g i j)):=by
 intro pins s σ H x y v u Q I rx ry h;obtain⟨i,j,rfl,rfl,q⟩:=h;obtain⟨t,rfl⟩:=rx;obtain⟨t',rfl⟩:=ry;exact rule i j t t' s _ _ ⟨.int (g i j),H,I.tok _,⟨_,rfl⟩,q⟩
theorem LJ{f:af->af->Sem af}{g:Int->Int->Bool}
  (rule: ∀(i j:Int) (t u:Tok) (s:aj) (Q:af->aj->Prop) (E:af->aj->Prop),Q (.bool (g i j)) s->av (aC X.prog X.w) X.A (f (.int i t) (.int j u)) Q E s):
  oP X f (LS fun i j=> .bl (g i j)):=by
 intro pins s σ H x y v u Q I rx ry h;obtain⟨i,j,rfl,rfl,q⟩:=h;obtain⟨t,rfl⟩:=rx;obtain⟨t',rfl⟩:=ry;exact rule i j t t' s _ _ ⟨.bl (g i j),H,I,rfl,q⟩
def Qv(i j:Int):Prop:=0 < j/\j < 1073741824
def Mf(i j:Int):Prop:=(-(2 ^ 64) < i/\i < 2 ^ 64)\/(-(2 ^ 64) < j/\j < 2 ^ 64)
theorem Mf.ok{i j:Int}(h:Mf i j):IntMulOk i j:=by
 rcases h with⟨h1,h2⟩ | ⟨h1,h2⟩
 ·exact .of_left (intBits_le_64 h1 h2)
 ·exact .of_right (intBits_le_64 h1 h2)
theorem Om:oP X (ku .Add) (LS fun i j=> .int (i+j)):=P4 fun _ _ _ _ _ _ _ q=>add_int q
theorem OV:oP X (ku .Sub) (LS fun i j=> .int (i - j)):=P4 fun _ _ _ _ _ _ _ q=>sub_int q
theorem NT:oP X (ku .Mult) (rI Mf fun i j=> .int (i * j)):=S8 fun _ _ _ _ _ _ _ hc q=>mul_int q hc.ok
theorem Lw:oP X (ku .FloorDiv) (rI Qv fun i j=> .int (i / j)):=S8 fun i j _ _ _ _ _ hc q=>by
 have h1:(0:Int) < j:=hc.1;have h2:j < 1073741824:=hc.2;exact floordiv_int (by omega) (by rw [Int.fdiv_eq_ediv_of_nonneg i (by omega)]; exact q) (.inl (PyProof.noPylong_small (by omega)))
theorem OK:oP X (ku .Mod) (rI (fun _ j=>0 < j) fun i j=> .int (i % j)):=S8 fun i j _ _ _ _ _ hc q=>by
 have h1:(0:Int) < j:=hc;exact mod_int' (by omega) (by rw [Int.fmod_eq_emod_of_nonneg i (by omega)]; exact q)
end
def P2:V->V->Bool
 | .non, .non=>true | .non, .int _=>true | .int _, .non=>true | .non, .bl _=>true | .bl _, .non=>true | .non, .str _=>true | .str _, .non=>true
 | .int _, .int _=>true | .bl _, .bl _=>true | .str _, .str _=>true | .byt _, .byt _=>true
 | .int _, .str _=>true | .str _, .int _=>true | .bl _, .str _=>true | .str _, .bl _=>true
 | _,_=>false
def X_:R2:=fun x y H Q=>P2 x y=true/\Q (.bl (decide (x=y))) H
def Yb:R2:=fun x y H Q=>P2 x y=true/\Q (.bl (!decide (x=y))) H
theorem Dd{i j:Int}:decide (V.int i=V.int j)=(i==j):=by
 rw [kN];simp
theorem HM{i j:Bool}:decide (V.bl i=V.bl j)=(i==j):=by
 rw [kN];simp
theorem Dk{i j:Str}:decide (V.str i=V.str j)=(i==j):=by
 rw [kN];simp
theorem DJ{i j:Array UInt8}:decide (V.byt i=V.byt j)=(i.toList==j.toList):=by
 rw [kN];cases i;cases j;simp
section
variable {X:Cx}{a b c:Expr}{ta tb tc:TE}{pos:Pos}
theorem dA{pins:List (ai×Obj)}{σ:St}{H:Hp}{s:aj}{Q:VK}{k k':Bool}(I:Inv X pins σ H s)(q:Q (.bl k) H)(e:k=k'):EP X pins σ Q (.bool k') s:=by
 subst e;exact⟨.bl k,H,I,rfl,q⟩
theorem Il:oP X (cR .Eq) X_:=by
 intro pins s σ H x y v u Q I rx ry h;obtain⟨hs,q⟩:=h;cases x with
 | non=>
  cases rx;cases y with
  | non=>cases ry; exact PySem.EqNone.eq_none_none (dA I q (by simp))
  | bl j=>cases ry; exact PySem.EqNone.eq_none_bool (dA I q (by simp))
  | int j=>obtain⟨t',rfl⟩:=ry; exact PySem.EqNone.eq_none_int (dA I q (by simp))
  | str j=>obtain⟨t',rfl⟩:=ry; exact PySem.EqNone.eq_none_str (dA I q (by simp))
  | _=>exact absurd (show false=true from hs) aG
 | bl i=>
  cases rx;cases y with
  | non=>cases ry; exact PySem.EqNone.eq_bool_none (dA I q (by simp))
  | bl j=>cases ry; exact eq_bool (dA I q HM)
  | str j=>obtain⟨t',rfl⟩:=ry; exact PySem.EqMixed.eq_bool_str (dA I q (by simp))
  | _=>exact absurd (show false=true from hs) aG
 | int i=>
  obtain⟨t,rfl⟩:=rx;cases y with
  | non=>cases ry; exact PySem.EqNone.eq_int_none (dA I q (by simp))
  | int j=>obtain⟨t',rfl⟩:=ry; exact eq_int (dA I q Dd)
  | str j=>obtain⟨t',rfl⟩:=ry; exact PySem.EqMixed.eq_int_str (dA I q (by simp))
  | _=>exact absurd (show false=true from hs) aG
 | str i=>
  obtain⟨t,rfl⟩:=rx;cases y with
  | non=>cases ry; exact PySem.EqNone.eq_str_none (dA I q (by simp))
  | bl j=>cases ry; exact PySem.EqMixed.eq_str_bool (dA I q (by simp))
  | int j=>obtain⟨t',rfl⟩:=ry; exact PySem.EqMixed.eq_str_int (dA I q (by simp))
  | str j=>obtain⟨t',rfl⟩:=ry; exact eq_str (dA I q Dk)
  | _=>exact absurd (show false=true from hs) aG
 | byt i=>
  obtain⟨t,rfl⟩:=rx;cases y with
  | byt j=>obtain⟨t',rfl⟩:=ry; exact PySem.W.eq_bytes (dA I q DJ)
  | _=>exact absurd (show false=true from hs) aG
 | _=>cases y <;> exact absurd (show false=true from hs) aG
theorem MU:oP X (cR .NotEq) Yb:=by
 intro pins s σ H x y v u Q I rx ry h;obtain⟨hs,q⟩:=h;cases x with
 | non=>
  cases rx;cases y with
  | non=>cases ry; exact PySem.EqNone.ne_none_none (dA I q (by simp))
  | bl j=>cases ry; exact PySem.EqNone.ne_none_bool (dA I q (by simp))
  | int j=>obtain⟨t',rfl⟩:=ry; exact PySem.EqNone.ne_none_int (dA I q (by simp))
  | str j=>obtain⟨t',rfl⟩:=ry; exact PySem.EqNone.ne_none_str (dA I q (by simp))
  | _=>exact absurd (show false=true from hs) aG
 | bl i=>
  cases rx;cases y with
  | non=>cases ry; exact PySem.EqNone.ne_bool_none (dA I q (by simp))
  | bl j=>cases ry; exact ne_bool (dA I q (congrArg not HM))
  | str j=>obtain⟨t',rfl⟩:=ry; exact PySem.EqMixed.ne_bool_str (dA I q (by simp))
  | _=>exact absurd (show false=true from hs) aG
 | int i=>
  obtain⟨t,rfl⟩:=rx;cases y with
  | non=>cases ry; exact PySem.EqNone.ne_int_none (dA I q (by simp))
  | int j=>obtain⟨t',rfl⟩:=ry; exact ne_int (dA I q (congrArg not Dd))
  | str j=>obtain⟨t',rfl⟩:=ry; exact PySem.EqMixed.ne_int_str (dA I q (by simp))
  | _=>exact absurd (show false=true from hs) aG
 | str i=>
  obtain⟨t,rfl⟩:=rx;cases y with
  | non=>cases ry; exact PySem.EqNone.ne_str_none (dA I q (by simp))
  | bl j=>cases ry; exact PySem.EqMixed.ne_str_bool (dA I q (by simp))
  | int j=>obtain⟨t',rfl⟩:=ry; exact PySem.EqMixed.ne_str_int (dA I q (by simp))
  | str j=>obtain⟨t',rfl⟩:=ry; exact ne_str (dA I q (congrArg not Dk))
  | _=>exact absurd (show false=true from hs) aG
 | byt i=>
  obtain⟨t,rfl⟩:=rx;cases y with
  | byt j=>obtain⟨t',rfl⟩:=ry; exact PySem.W.ne_bytes (dA I q (congrArg not DJ))
  | _=>exact absurd (show false=true from hs) aG
 | _=>cases y <;> exact absurd (show false=true from hs) aG
theorem Qe:oP X (cR .Lt) (LS fun i j=> .bl (decide (i < j))):=LJ fun _ _ _ _ _ _ _ q=>lt_int q
theorem QH:oP X (cR .LtE) (LS fun i j=> .bl (decide (i<=j))):=LJ fun _ _ _ _ _ _ _ q=>le_int q
theorem QG:oP X (cR .Gt) (LS fun i j=> .bl (decide (j < i))):=LJ fun _ _ _ _ _ _ _ q=>gt_int q
theorem QD:oP X (cR .GtE) (LS fun i j=> .bl (decide (j<=i))):=LJ fun _ _ _ _ _ _ _ q=>ge_int q
theorem LU:oP X (cR .IsNot) (fun x y H Q=>y= .non/\Q (.bl (!decide (x= .non))) H):=by
 intro pins s σ H x y v u Q I rx ry h;obtain⟨rfl,q⟩:=h;cases ry;refine isnot_none_gen (dA I q ?_);cases x <;> first
  | (cases rx; rfl)
  | (obtain⟨t,rfl⟩:=rx; rfl)
theorem nG(b:Expr){op:p_}(h:op≠ .In:=by decide)(h2:op≠ .NotIn:=by decide):fw op b=false:=by
 have e1:(op==CmpOp.In)=false:=by cases op <;> first | rfl | exact absurd rfl h
 have e2:(op==CmpOp.NotIn)=false:=by cases op <;> first | rfl | exact absurd rfl h2
 cases b <;> simp [fw,e1,e2]
theorem Ln{op:p_}{r:R2}(ho:oP X (cR op) r)(ha:PE X a ta)(hb:PE X b tb)(hm:fw op b=false):PE X (.Compare a [op] [b] pos) (Sh r ta tb):=by
 intro pins s σ H Q I h;exact wpAny_Compare1 (Oq ha hb I h fun v u s2 x y H2 I2 rx ry q=>ho pins s2 σ H2 x y v u Q I2 rx ry q) hm
def M7(t:TE):TT:=fun σ H Q=>t σ H fun x H'=> ∃k,x= .bl k/\Q k H'
theorem DL{op:p_}{r:R2}(ho:oP X (cR op) r)(ha:PE X a ta)(hb:PE X b tb)(hm:fw op b=false):PT X (.Compare a [op] [b] pos) (M7 (Sh r ta tb)):=by
 intro pins s σ H Q I h;refine wpAny_isTrue_Compare1 (fx (ha pins s σ H _ I h) fun v s1 ⟨x,H1,I1,r1,q1⟩=>fx (hb pins s1 σ H1 _ I1 q1) fun u s2 ⟨y,H2,I2,r2,q2⟩=>
  fx (ho pins s2 σ H2 x y v u _ I2 r1 r2 q2) fun c s3 ⟨z,H3,I3,r3,k,e,q3⟩=> ?_) hm
 subst e;cases r3;exact fV ⟨H3,I3,q3⟩
def HI(r r':R2)(ta tb tc:TE):TE:=fun σ H Q=>ta σ H fun x H1=>tb σ H1 fun y H2=>r x y H2 fun z H3=> ∃k,z= .bl k/\
 (if k=true then tc σ H3 fun w' H4=>r' y w' H4 Q else Q (.bl false) H3)
theorem IQ{op C0:p_}{r r':R2}(ho:oP X (cR op) r)(yO:oP X (cR C0) r')(ha:PE X a ta)(hb:PE X b tb)(hc:PE X c tc)
  (hm:lastMarks [op,C0] [b,c]=false:=by with_unfolding_all rfl):PE X (.Compare a [op,C0] [b,c] pos) (HI r r' ta tb tc):=by
 intro pins s σ H Q I h;refine Compare_chain (fx (ha pins s σ H _ I h) fun v s1 ⟨x,H1,I1,r1,q1⟩=>chain_link (fx (hb pins s1 σ H1 _ I1 q1) fun u s2 ⟨y,H2,I2,r2,q2⟩=>
  fx (ho pins s2 σ H2 x y v u _ I2 r1 r2 q2) fun d s3 ⟨z,H3,I3,r3,k,e,q3⟩=> ?_)) hm
 subst e;cases r3;refine fV ?_;cases k with
 | false=>exact ite_ff ⟨.bl false,H3,I3,rfl,q3⟩
 | true=>exact ite_tt (chain_last (fx (hc pins s3 σ H3 _ I3 q3) fun w' s4 ⟨z',H4,I4,r4,q4⟩=>yO pins s4 σ H4 y z' u w' Q I4 r2 r4 q4))
theorem Jq{op C0:p_}{r r':R2}(ho:oP X (cR op) r)(yO:oP X (cR C0) r')(ha:PE X a ta)(hb:PE X b tb)(hc:PE X c tc)
  (hm:lastMarks [op,C0] [b,c]=false:=by with_unfolding_all rfl):PT X (.Compare a [op,C0] [b,c] pos) (M7 (HI r r' ta tb tc)):=by
 intro pins s σ H Q I h;refine isTrue_chain (fx (ha pins s σ H _ I h) fun v s1 ⟨x,H1,I1,r1,q1⟩=>test_link (fx (hb pins s1 σ H1 _ I1 q1) fun u s2 ⟨y,H2,I2,r2,q2⟩=>
  fx (ho pins s2 σ H2 x y v u _ I2 r1 r2 q2) fun d s3 ⟨z,H3,I3,r3,k,e,q3⟩=> ?_)) hm
 subst e;cases r3;refine fV ?_;cases k with
 | false=>
  obtain⟨k',e',q'⟩:=q3;cases e';exact ite_ff ⟨H3,I3,q'⟩
 | true=>
  refine ite_tt (test_last (fx (hc pins s3 σ H3 _ I3 q3) fun w' s4 ⟨z',H4,I4,r4,q4⟩=>fx (yO pins s4 σ H4 y z' u w' _ I4 r2 r4 q4) fun d' s5 ⟨z2,H5,I5,r5,k2,e2,q5⟩=> ?_));subst e2;cases r5;exact fV ⟨H5,I5,q5⟩
theorem yG:(sizeLine:Nat) < 2 ^ 63:=by rw [eF]; decide
theorem vals1{x:V}{us:List af}(r:Vals [x] us): ∃u,us= [u]/\RelV x u:=by
 cases r with
 | cons r1 r2=>cases r2; exact⟨_,rfl,r1⟩
theorem vals2{x y:V}{us:List af}(r:Vals [x,y] us): ∃u w',us= [u,w']/\RelV x u/\RelV y w':=by
 cases r with
 | cons r1 r2=>
  cases r2 with
  | cons r3 r4=>cases r4; exact⟨_,_,rfl,r1,r3⟩
theorem E9(hc:X.calm=true):gW X (.builtin "min") (fun xs H Q=> ∃i j,xs= [.int i, .int j]/\Q (.int (if j < i then j else i)) H):=by
 intro pins s σ H xs us Q I r h;obtain⟨i,j,rfl,q⟩:=h;obtain⟨u,w',rfl,⟨t,rfl⟩,⟨t',rfl⟩⟩:=vals2 r;refine min_two_ints (I.ok.hd hc) fun h' tk k=>⟨_,H,I.kept k, ?_,q⟩
 by_cases hj:j < i
 ·rw [if_pos hj,if_pos hj]; exact⟨_,rfl⟩
 ·rw [if_neg hj,if_neg hj]; exact⟨_,rfl⟩
theorem ES:gW X (.type "int") (fun xs H Q=>(∃i,xs= [.int i]/\Q (.int i) H)\/ ∃k,xs= [.bl k]/\Q (.int (if k then 1 else 0)) H):=by
 intro pins s σ H xs us Q I r h
 rcases h with⟨i,rfl,q⟩ | ⟨k,rfl,q⟩
 ·obtain⟨u,rfl,t,rfl⟩:=vals1 r;exact call_int_int ⟨.int i,H,I,⟨_,rfl⟩,q⟩
 ·obtain⟨u,rfl,r1⟩:=vals1 r;cases r1;exact call_int_bool ⟨.int (if k then 1 else 0),H,I.tok _,⟨_,rfl⟩,q⟩
end
end L2
namespace L2
open PySem PySem.Spec PyProof.Rows
structure Cr(h:aY)(x dx C:ai)(mA:Str->Option af):Prop where
 obj:h.get? x=some (gQ C dx)
 ns:h.Ns1 dx mA
 ne:dx≠x
theorem EC{h:aY}{dx:ai}{mA:Str->Option af}(n:h.Ns1 dx mA): ∃od,h.get? dx=some od/\ ∀name,yW name od=some (mA name):=by
 obtain⟨o,es,ep,ho,hd,hk,_,hm⟩:=n;refine⟨o,ho,fun name=> ?_⟩;have e:=hm name;unfold nsFind findBy at e;rw [<-Array.find?_toList]at e;unfold yW;rw [hd];dsimp only
 split
 ·rename_i y q;rw [q]at e;exact congrArg some e
 ·rename_i q;rw [q]at e;have a:es.toList.any (·.refKey)=false:=by
   rw [List.any_eq_false];intro y hy;obtain⟨z,t,JZ⟩:=hk y (Array.mem_toList_iff.mp hy);simp [DictEntry.refKey,JZ]
  have a': ¬es.toList.any (·.refKey)=true:=by rw [a]; exact aG
  rw [if_neg a'];exact congrArg some e
theorem Cr.look{h:aY}{x dx C:ai}{mA:Str->Option af}(I:Cr h x dx C mA): ∃od,PySem.W.InstAt h x (gQ C dx) C (some od)/\ ∀name,yW name od=some (mA name):=
 let⟨od,ho,hl⟩:=EC I.ns
 ⟨od,⟨I.obj,rfl,rfl,ho⟩,hl⟩
section
variable {prog:aH}{w:aW}{A:bA}{E:af->aj->Prop}{s:aj}{K:aQ}{x dx C f:ai}{mA:Str->Option af}{name:Str}{v:af}
theorem get_map{expr:Bool}{Q:af->aj->Prop}(X:K.In s.heap)(I:Cr s.heap x dx C mA)(hg:nc K C name=true)(hh:su K C=true)
  (ha:cA K (.ref C) name=some none)(hv:mA name=some v)(Vi:PySem.W.handedIn v=true)(h:Q v {s with toks:=s.toks+1}):
  av (aC prog w) A (getAttr (.ref x) name expr) Q E s:=by
 obtain⟨od,J,hl⟩:=I.look;exact PySem.W.get_value X J (Gj hg).1 (PySem.W.findObj_own hh ha rfl (by rw [hl,hv])) Vi h
theorem Js{pl:Sem Bool}{Q:af×List af->aj->Prop}(X:K.In s.heap)(I:Cr s.heap x dx C mA)(hg:nc K C name=true)
  (hf:cA K (.ref C) name=some (some (.ref f)))(ht:sv K (.ref f)=true)(hv:mA name=none)(h:Q (.ref f, [.ref x]) s):
  av (aC prog w) A (getMethod (.ref x) name pl) Q E s:=by
 obtain⟨od,J,hl⟩:=I.look;exact PySem.W.method_fn X J (Gj hg).1 (Gj hg).2 hf (beq_iff_eq.mp ht) (by show(yW name od).map (·.isSome)=some false; rw [hl,hv]; rfl) h
theorem Mq{ns:List Str}{Q:Unit->aj->Prop}(X:K.In s.heap)(I:Cr s.heap x dx C mA)
  (hs:cA K (.ref C) "__setattr__"=some (some (.builtin "object.__setattr__")))(hp:KR K C=true)(ht:NJ K C name=some none)(hh:su K C=true)
  (hw:Sf mA ns)(hsz:ns.length<=sizeLine)
  (h: ∀h',Cr h' x dx C (fun y=>if y=name then some v else mA y)->bR dx s.heap h'->Q () {s with heap:=h',toks:=s.toks+2}):
  av (aC prog w) A (setAttr (.ref x) name v) Q E s:=by
 obtain⟨od,J,hl⟩:=I.look;refine PySem.W.set_plain X J hs (PySem.W.osa_open (s:={s with toks:=s.toks+1}) (r:=none) X J hp ht fun b=> ?_);obtain⟨cd,hc,BB⟩:=PySem.W.any_some hh;have hx:s.heap.get? x=some ⟨.ref C,some dx, .plain, #[]⟩:=I.obj;refine aa (ag (aa (aa (wpAny_loadPart hx (aa (PySem.W.Looks.here (s:={s with toks:=s.toks+1}) (PySem.W.looks_clsIn X hc) ?_))))));rw [BB];refine ag (a:=some dx) (aa (ag (aa ?_)));refine wpAny_nsSet1 (s:={s with toks:=s.toks+1}) I.ns fun h' Eh By=> ?_;obtain⟨oD,esD,epD,Zf,ZD,hcD⟩:=Eh.count (PySem.Within.cons name v hw);refine aa (wpAny_lookBehind Zf (by rw [ZD]; exact pastItsLine_dict (bg hcD (by rw [aK]; omega))) ?_);exact ag (h _ ⟨(By.2 _ (qi I.ne)).trans I.obj,Eh,I.ne⟩ By)
theorem Hc{R:Result->aj->Prop}{vs:List af}{kw:List (Str×af)}(X:K.In s.heap)(hm:NK K C=true)
  (hi:cA K (.ref C) "__init__"=some (some (.ref f)))(hf:PySem.W.typeIn K (.ref f)=some (.type "function"))
  (h:gj (aC prog w) (A.under (.builtin "type.__call__" ⟨.ref C::vs,kw⟩)) (.call (.ref f) ⟨.ref (s.heap.objs.size+1)::vs,kw⟩) (PySem.W.InitBack (s.heap.objs.size+1) R)
   {s with heap:=(s.heap.push eX).push (gQ C s.heap.objs.size)}):
  gj (aC prog w) A (.call (.ref C) ⟨vs,kw⟩) R s:=by
 obtain⟨hh,g,d,t,os⟩:=s;exact PySem.W.make_core (PySem.W.makes_of X hm) (PySem.W.looks_findIn X hi) (fun self=>PySem.W.bind_fn X self hf) (.inl rfl) h
end
def gG(f:Str)(v:V):List (Str×V)->List (Str×V)
 | []=> [(f,v)]
 | (g,x)::r=>if g=f then(g,v)::r else(g,x)::gG f v r
theorem rO(f g:Str)(v:V): ∀fs:List (Str×V),(gG f v fs).lookup g=if g=f then some v else fs.lookup g
 | []=>by
  show mq g [(f,v)]=_
  by_cases h:g=f
  ·have hb:(g==f)=true:=beq_iff_eq.mpr h;simp only [mq,hb,if_pos h]
  ·have hb:(g==f)=false:=beq_eq_false_iff_ne.mpr h;simp only [mq,hb,if_neg h]
 | (k,x)::r=>by
  have ih:=rO f g v r;rw [show gG f v ((k,x)::r)=(if k=f then(k,v)::r else(k,x)::gG f v r)from rfl]
  by_cases hk:k=f
  ·rw [if_pos hk]
   by_cases h:g=k
   ·have hb:(g==k)=true:=beq_iff_eq.mpr h;simp only [mq,hb,if_pos (h.trans hk)]
   ·have hb:(g==k)=false:=beq_eq_false_iff_ne.mpr h;simp only [mq,hb,if_neg (fun e:g=f=>h (e.trans hk.symm))]
  ·rw [if_neg hk]
   by_cases h:g=k
   ·have hb:(g==k)=true:=beq_iff_eq.mpr h;simp only [mq,hb,if_neg (fun e:g=f=>hk (h.symm.trans e))]
   ·have hb:(g==k)=false:=beq_eq_false_iff_ne.mpr h;simp only [mq,hb];exact ih
theorem q9(f:Str)(v:V): ∀fs:List (Str×V),f∈(gG f v fs).map (·.1)/\ ∀g,g∈fs.map (·.1)->g∈(gG f v fs).map (·.1)
 | []=>⟨by simp [gG],fun g h=>by simp at h⟩
 | (k,x)::r=>by
  obtain⟨i1,i2⟩:=q9 f v r;rw [show gG f v ((k,x)::r)=(if k=f then(k,v)::r else(k,x)::gG f v r)from rfl]
  by_cases hk:k=f
  ·rw [if_pos hk];subst hk;exact⟨by simp,fun g h=>by simpa using h⟩
  ·rw [if_neg hk];refine⟨?_,fun g h=> ?_⟩
   ·rw [a9];exact c7 _ i1
   ·rw [a9]at h ⊢
    rcases aV.mp h with e | e
    ·exact aV.mpr (.inl e)
    ·exact c7 _ (i2 g e)
theorem jP(f:Str)(v:V): ∀fs:List (Str×V),(gG f v fs).length<=fs.length+1
 | []=>by simp [gG]
 | (k,x)::r=>by
  have ih:=jP f v r;rw [show gG f v ((k,x)::r)=(if k=f then(k,v)::r else(k,x)::gG f v r)from rfl]
  by_cases hk:k=f
  ·rw [if_pos hk,aK,aK]; omega
  ·rw [if_neg hk,aK,aK]; omega
theorem vT.some_of{v:V}{o:Option af}(r:vT (some v) o): ∃u,o=some u/\RelV v u:=by
 cases o with
 | none=>exact(show False from r).elim
 | some u=>exact⟨u,rfl,r⟩
theorem vT.none_of{o:Option af}(r:vT none o):o=none:=by
 cases o with
 | none=>rfl
 | some u=>exact(show False from r).elim
theorem E6{v:V}{u:af}(r:RelV v u):PySem.W.handedIn u=true:=by
 cases v with
 | non=>cases (show u=bD from r); rfl
 | bl b=>cases (show u=gf b from r); rfl
 | int i=>obtain⟨t,e⟩:=(show ∃t,u=gR i t from r); cases e; rfl
 | str x=>obtain⟨t,e⟩:=(show ∃t,u=BD x t from r); cases e; rfl
 | byt b=>obtain⟨t,e⟩:=(show ∃t,u=Value.bytes b t from r); cases e; rfl
 | flt b=>obtain⟨t,e⟩:=(show ∃t,u=Value.float b t from r); cases e; rfl
 | ref a=>cases (show u=au a from r); rfl
 | ty n=>cases (show u=cK n from r); rfl
section
variable {P:aH}{w:aW}{H H':Hp}{h h':aY}{a C dx:ai}{fs fs':List (Str×V)}
theorem oJ(fb:qh P w H h)(e:H a=some (.ins C dx fs)): ∃mA,Cr h a dx C mA/\(∀f,vT (fs.lookup f) (mA f))/\Sf mA (fs.map (·.1))/\fs.length<=1000/\H dx=some (.own a):=by
 obtain⟨d,z,ne,ob,mA,n,r,q⟩:=(show fJ P w H h a (.ins C dx fs)from fb a _ e);exact⟨mA,⟨ob,n,ne⟩,r,q,z,d⟩
end
structure BN(K:aQ)(C:ai):Prop where
 pg:nc K C Str.empty=true
 hd:su K C=true
 po:KR K C=true
 sa:cA K (.ref C) "__setattr__"=some (some (.builtin "object.__setattr__"))
theorem BN.get{K:aQ}{C:ai}(c:BN K C)(f:Str):nc K C f=true:=c.pg
def jn(K:aQ)(C:ai)(f:Str):Prop:=cA K (.ref C) f=some none
theorem jn.taker{K:aQ}{C:ai}{f:Str}(n:jn K C f):NJ K C f=some none:=by
 unfold NJ;rw [show cA K (.ref C) f=some none from n];rfl
structure Meth(K:aQ)(C:ai)(m:Str)(f:ai):Prop where
 at_:cA K (.ref C) m=some (some (.ref f))
 fn:sv K (.ref f)=true
 kp:gz K (.ref f)=true
section
variable {X:Cx}{pins:List (ai×Obj)}{σ:St}{H:Hp}{s:aj}{a C dx:ai}{fs:List (Str×V)}{f:Str}{v:V}{A:bA}{E:af->aj->Prop}
theorem Cc{b:Bool}{Q:af->aj->Prop}(I:Inv X pins σ H s)(e:H a=some (.ins C dx fs))(c:BN X.K C)(n:jn X.K C f)(l:fs.lookup f=some v)
  (h: ∀u s',Inv X pins σ H s'->RelV v u->Q u s'):av (aC X.prog X.w) A (getAttr (.ref a) f b) Q E s:=by
 obtain⟨mA,O,r,_,_,_⟩:=oJ I.fb e;obtain⟨u,hu,ru⟩:=vT.some_of (v:=v) (o:=mA f) (by rw [<-l]; exact r f);exact get_map I.kIn O (c.get f) c.hd n hu (E6 ru) (h u _ (I.tok _) ru)
theorem B7{m:Str}{g:ai}{pl:Sem Bool}{Q:af×List af->aj->Prop}(I:Inv X pins σ H s)(e:H a=some (.ins C dx fs))(c:BN X.K C)(k:Meth X.K C m g)(l:fs.lookup m=none)
  (h:Q (.ref g, [.ref a]) s):av (aC X.prog X.w) A (getMethod (.ref a) m pl) Q E s:=by
 obtain⟨mA,O,r,_,_,_⟩:=oJ I.fb e;have hn:mA m=none:=vT.none_of (by rw [<-l]; exact r m);exact Js I.kIn O (c.get m) k.at_ k.fn hn h
theorem B9{y:V}{u:af}{Q:Unit->aj->Prop}(I:Inv X pins σ H s)(e:H a=some (.ins C dx fs))(c:BN X.K C)(n:jn X.K C f)(hl:fs.length < 1000)(ry:RelV y u)
  (h: ∀s',Inv X pins σ (upd H a (.ins C dx (gG f y fs))) s'->Q () s'):av (aC X.prog X.w) A (setAttr (.ref a) f u) Q E s:=by
 obtain⟨mA,O,r,wi,_,ho⟩:=oJ I.fb e;have hz:(fs.map (·.1)).length<=sizeLine:=by rw [ae,eF]; omega
 refine Mq I.kIn O c.sa c.po n.taker c.hd wi hz fun h' O' sb=>h _ ?_;have hd: ∃o,h'.get? dx=some o:=let⟨o,_,_,e',_⟩:=O'.ns; ⟨o,e'⟩;refine I.write (x:=a) (e:=dx) (by rw [e]; exact cB) (.inr ho) (fun b q hb z=>(sb.2 b hb).trans z) hd ?_;refine⟨by rw [b8 O.ne]; exact ho, ?_,O.ne,O'.obj,_,O'.ns,fun g=> ?_,fun g hg=> ?_⟩
 ·have:=jP f y fs; omega
 ·show vT ((gG f y fs).lookup g) (if g=f then some u else mA g);rw [rO]
  by_cases q:g=f
  ·rw [if_pos q,if_pos q]; exact ry
  ·rw [if_neg q,if_neg q]; exact r g
 ·by_cases q:g=f
  ·rw [q]; exact(q9 f y fs).1
  ·refine(q9 f y fs).2 g (wi g fun z=>hg ?_);show(if g=f then some u else mA g)=none;rw [if_neg q]; exact z
theorem Inv.made(I:Inv X pins σ H s):Inv X pins σ (upd (upd H s.heap.objs.size (.own (s.heap.objs.size+1))) (s.heap.objs.size+1) (.ins C s.heap.objs.size []))
  {s with heap:=(s.heap.push eX).push (gQ C s.heap.objs.size)}:=by
 have e1:(s.heap.push eX).get? s.heap.objs.size=some eX:=aw s.heap rfl;have e2:((s.heap.push eX).push (gQ C s.heap.objs.size)).get? (s.heap.objs.size+1)=some (gQ C s.heap.objs.size):=by
  have:=aw (s.heap.push eX) (o:=gQ C s.heap.objs.size) rfl
  rwa [c8]at this
 have e3:(s.heap.push eX).Ns s.heap.objs.size (fun _=>none):=⟨eX, #[],_,e1,rfl,(fun e he=>absurd he (by simp)),fun _=>rfl⟩;have I1:=I.laid (a:=s.heap.objs.size) (o:= .own (s.heap.objs.size+1)) (h':=s.heap.push eX) (t':=s.toks) (fun b u q=>ah _ q) (ay _) ⟨_,e1⟩;refine I1.laid (a:=s.heap.objs.size+1) (o:= .ins C s.heap.objs.size []) (t':=s.toks) (fun b u q=>ah _ q) (oj (c8 _ _)) ?_;have ne:s.heap.objs.size≠s.heap.objs.size+1:=aN (gA _);refine⟨by rw [b8 ne,bI],bK _,ne,e2,fun _=>none,(Heap.Ns1.of_empty e3).at fun o q=>ah _ q,fun _=>cB,fun y hy=>absurd rfl hy⟩
theorem LW{prog:aH}{w:aW}{env:Env}{e:Expr}{f:Str}{pos:Pos}{s:aj}{Q:af->aj->Prop}(hb:kj e f env (bV e env)=bV e env)
  (h:av (aC prog w) A (bV e env) (fun o eK=>av (aC prog w) A (getAttr o f true) Q E eK) E s):av (aC prog w) A (bV (.Attribute e f pos) env) Q E s:=
 Attribute_any_ h (by rw [arm_eval_Attribute,hb])
end
def Ti(K:aQ)(ta:TE)(f:Str):TE:=fun σ H Q=>ta σ H fun x H1=> ∃a C dx fs v,x= .ref a/\H1 a=some (.ins C dx fs)/\BN K C/\jn K C f/\fs.lookup f=some v/\Q v H1
def S_(K:aQ)(ta tv:TE)(f:Str):TS:=fun D σ H=>tv σ H fun y H1=>ta σ H1 fun x H2=> ∃a C dx fs,x= .ref a/\H2 a=some (.ins C dx fs)/\BN K C/\jn K C f/\fs.length < 1000/\
 D.nx σ (upd H2 a (.ins C dx (gG f y fs)))
section
variable {X:Cx}{o e value:Expr}{f:Str}{pos pos' Zr:Pos}{ta tv:TE}
theorem OF(he:PE X e ta)(hb:kj e f X.env (bV e X.env)=bV e X.env):PE X (.Attribute e f pos) (Ti X.K ta f):=by
 intro pins s σ H Q I h;refine LW hb (fx (he pins s σ H _ I h) fun u s1 ⟨x,H1,I1,rx,a,C,dx,fs,v,ex,ea,c,n,l,q⟩=> ?_);subst ex;obtain rfl:u=au a:=rx;exact Cc I1 ea c n l fun u' s2 I2 ru=>⟨v,H1,I2,ru,q⟩
theorem Hx(ha:PE X o ta)(hv:PE X value tv)(hs:cu value (some (.Attribute o f pos')) pos.line X.env=pure false):PS X (.Assign [.Attribute o f pos'] value pos) (S_ X.K ta tv f):=by
 intro pins s σ H D I h;refine plainObj_wpAny_Assign_Attribute (fx (hv pins s σ H _ I h) fun u s1 ⟨y,H1,I1,ry,q⟩=>fx (ha pins s1 σ H1 _ I1 q) fun ov s2 ⟨x,H2,I2,rx,a,C,dx,fs,ex,ea,c,n,l,q2⟩=> ?_) hs;subst ex;obtain rfl:ov=au a:=rx;exact B9 I2 ea c n l ry fun s3 I3=>⟨σ,_,I3,q2⟩
end
section
variable {X:Cx}{pins:List (ai×Obj)}{σ:St}{H:Hp}{s:aj}{A:bA}{E:af->aj->Prop}{Q:af->aj->Prop}{c:af}{b:Bool}
inductive ui(K:aQ)(H:Hp):V->af->Prop where
 | non:ui K H .non (.type "NoneType")
 | bl (x:Bool):ui K H (.bl x) (.type "bool")
 | int (i:Int):ui K H (.int i) (.type "int")
 | str (x:Str):ui K H (.str x) (.type "str")
 | flt (x:UInt64):ui K H (.flt x) (.type "float")
 | lst {a:ai} {xs:List V} (e:H a=some (.lst xs)):ui K H (.ref a) (.type "list")
 | frz {a:ai} {o:Obj} {xs:List V} (e:H a=some (.frz o (.lst xs))):ui K H (.ref a) (.type "list")
 | tup {a:ai} {xs:List V} (e:H a=some (.tup xs)):ui K H (.ref a) (.type "tuple")
 | dK {a:ai} {vt:List (Key×V)} (e:H a=some (.dK vt)):ui K H (.ref a) (.type "dict")
 | dT {a:ai} {vt:List (List Key×V)} (e:H a=some (.dT vt)):ui K H (.ref a) (.type "dict")
 | ins {a C dx:ai} {fs:List (Str×V)} (e:H a=some (.ins C dx fs)) (cl:BN K C) (ha:cA K (.ref C) "__class__"=some (some (.builtin "object.__class__")))
   (hn:PySem.W.specialIn K (.builtin "object.__class__") "__get__"=some (some (.builtin "getset_descriptor.__get__"))) (VG:PySem.W.takesIn K (.builtin "object.__class__")=some true)
   (hm:PySem.W.mroIn K C (.type "object")=some true):ui K H (.ref a) (.ref C)
end
end L2
namespace L2
open PySem PySem.Spec PyProof.Rows
structure eW(k:Nat)(A:bA):Prop where
 hd:A.handled=none
 dp:A.depth+3 * k+5 < recursionLimit
 un:A.units+16 * k+200 < cLine
theorem eW.mono{j k:Nat}{A:bA}(r:eW k A)(h:j<=k):eW j A:=⟨r.hd,by have:=r.dp; omega,by have:=r.un; omega⟩
theorem eW.deeper{k:Nat}{A:bA}(r:eW (k+1) A)(env:Env):eW k (A.deeper env):=
 ⟨r.hd,by have:=r.dp; show A.depth+1+3 * k+5 < _; omega,by have:=r.un; show A.units+3+16 * k+200 < _; omega⟩
theorem Cu{A:bA}{C:ai}{us:List af}{kw:List (Str×af)}:(A.under (.builtin "type.__call__" ⟨.ref C::us,kw⟩)).depth=A.depth+1:=by
 first | rfl | simp [Around.under,Code.weight,Code.isCreation,Code.isGuard,Code.isCaller,Code.frames,Code.isFrame,guardIds]
theorem BZ{A:bA}{C:ai}{us:List af}{kw:List (Str×af)}:(A.under (.builtin "type.__call__" ⟨.ref C::us,kw⟩)).units=A.units+1:=by
 first | rfl | simp [Around.under,Code.cUnits,Code.frames,Code.isFrame]
theorem eW.make{k:Nat}{A:bA}(r:eW (k+1) A)(C:ai)(us:List af)(kw:List (Str×af)):eW k (A.under (.builtin "type.__call__" ⟨.ref C::us,kw⟩)):=
 ⟨r.hd,by have:=r.dp; rw [Cu]; omega,by have:=r.un; rw [BZ]; omega⟩
theorem eW.depth{k:Nat}{A:bA}(r:eW k A):A.depth < recursionLimit:=by have:=r.dp; omega
def QA:TA:=fun _ H Q=>Q [] H
def QI(ta:TE)(tr:TA):TA:=fun σ H Q=>ta σ H fun x H1=>tr σ H1 fun xs H2=>Q (x::xs) H2
section
variable {X:Cx}{e:Expr}{es:List Expr}{te:TE}{t:TA}{pos:Pos}
theorem hG:PA X [] QA:=fun _ _ _ _ H Q I h=>Calls.spliced_nil ⟨[],H,I, .nil,h⟩
theorem e_(ha:PE X e te)(hr:PA X es t)(hs:ax (e::es) X.env=(false,bV e X.env)::ax es X.env:=by rfl):PA X (e::es) (QI te t):=by
 intro pos pins s σ H Q I h;rw [hs];show av _ _ (spliced ((false,bV e X.env)::fc pos (ax es X.env))) _ _ s;refine Calls.spliced_cons (fx (ha pins s σ H _ I h) fun u s1 ⟨x,H1,I1,r1,q1⟩=> ?_);exact fx (hr pos pins s1 σ H1 _ I1 q1) fun us s2 ⟨xs,H2,I2,r2,q2⟩=>⟨x::xs,H2,I2, .cons r1 r2,q2⟩
def T9(t:TA):TE:=fun σ H Q=>t σ H fun xs H1=>xs.length<=sizeLine/\ ∀p,H1 p=none->Q (.ref p) (upd H1 p (.tup xs))
def TQ(t:TA):TE:=fun σ H Q=>t σ H fun xs H1=>xs.length<=sizeLine/\ ∀p,H1 p=none->Q (.ref p) (upd H1 p (.lst xs))
theorem Jb{x1}(h:PA X es t):PE X (.Tuple es x1 pos) (T9 t):=by
 intro pins s σ H Q I hq;refine wpAny_Tuple_spliced (fx (h pos pins s σ H _ I hq) fun us s1 ⟨xs,H1,I1,r,z,q⟩=>⟨by rw [<-r.length]; exact z, ?_⟩);have hf:H1 s1.heap.objs.size=none:=I1.fb.fresh (ay _);refine⟨.ref s1.heap.objs.size,upd H1 s1.heap.objs.size (.tup xs),I1.laid (t':=s1.toks) (fun b u e=>ah _ e) (ay _) ?_,rfl,q _ hf⟩;exact⟨z,us,r,⟨_,aw _ rfl,rfl,_,rfl⟩⟩
theorem Ow(h:PA X es t):PE X (.List es pos) (TQ t):=by
 intro pins s σ H Q I hq;refine wpAny_List_spliced (fx (h pos pins s σ H _ I hq) fun us s1 ⟨xs,H1,I1,r,z,q⟩=>⟨by rw [<-r.length]; exact z, ?_⟩);have hf:H1 s1.heap.objs.size=none:=I1.fb.fresh (ay _);refine⟨.ref s1.heap.objs.size,upd H1 s1.heap.objs.size (.lst xs),I1.laid (t':=s1.toks) (fun b u e=>ah _ e) (ay _) ?_,rfl,q _ hf⟩;exact⟨z,us,0,r,aw _ rfl⟩
end
abbrev Sp:=List V->Hp->VK->XK->Prop
abbrev k_:=List Env->Hp->aj->XK->af->aj->Prop
structure Cb(P:aH)(w:aW)(K:aQ)(mg:Str->Option af)(base:aY)(A:bA)(outer:List Env)(s:aj)(H:Hp):Prop where
 frames:A.frames=some outer
 mod:Mod K mg base
 bs: ∀b o,base.get? b=some o->s.heap.get? b=some o/\H b=none
 Hk:base.objs.size<=s.heap.objs.size
 rA:s.heap.FunFrames base outer
 Nj: ∀b∈Bt outer,H b=none
 fb:qh P w H s.heap
 bare:oi s.gens
def CE(outer:List Env)(P:aH)(w:aW)(H:Hp)(s:aj)(Q:VK)(u:af)(s':aj):Prop:=
 ∃v H',s'.os=s.os/\oi s'.gens/\Un (Bt outer) [] H H' s.heap s'.heap/\qh P w H' s'.heap/\RelV v u/\Q v H'
def CR(CX:k_)(outer:List Env)(P:aH)(w:aW)(H:Hp)(s:aj)(Q:VK)(E:XK)(r:Result)(s':aj):Prop:=
 match r with
 | .ok (.ret u)=>CE outer P w H s Q u s'
 | .ok _=>False
 | .error e=>CX outer H s E e s'
structure mZ(P:aH)(w:aW)(K:aQ)(mg:Str->Option af)(base:aY)(CX:k_)(k:Nat)(f:ai)(fd:bb)(ps:List Str)(sp:Sp):Prop where
 len: ∀vs H Q E,sp vs H Q E->vs.length=ps.length
 run: ∀(A:bA) (outer:List Env) (s:aj) (H:Hp) (args:Args) (us:List af) (vs:List V) (Q:VK) (E:XK),eW k A->Cb P w K mg base A outer s H->BindsTo s fd args (ps.zip us)->Vals vs us->sp vs H Q E->
  gj (aC P w) A (.call (.ref f) args) (CR CX outer P w H s Q E) s
theorem mZ.imp{P:aH}{w:aW}{K:aQ}{mg:Str->Option af}{base:aY}{CX:k_}{k:Nat}{f:ai}{fd:bb}{ps:List Str}{sp XQ:Sp}(F:mZ P w K mg base CX k f fd ps sp)
  (h: ∀vs H Q E,XQ vs H Q E->sp vs H Q E):mZ P w K mg base CX k f fd ps XQ:=
 ⟨fun vs H Q E q=>F.len vs H Q E (h _ _ _ _ q),fun A outer s H args us vs Q E hr he hb hv hs=>F.run A outer s H args us vs Q E hr he hb hv (h _ _ _ _ hs)⟩
theorem Cb.make{P:aH}{w:aW}{K:aQ}{mg:Str->Option af}{base:aY}{A:bA}{outer:List Env}{s:aj}{H:Hp}(e:Cb P w K mg base A outer s H)(C:ai)(us:List af)(kw:List (Str×af)):
  Cb P w K mg base (A.under (.builtin "type.__call__" ⟨.ref C::us,kw⟩)) outer s H:=⟨by first | exact e.frames | (simpa [Around.under,Code.envs,Code.isFrame,pushEnvs]using e.frames),e.mod,e.bs,e.Hk,e.rA,e.Nj,e.fb,e.bare⟩
section
variable {X:Cx}{pins:List (ai×Obj)}{σ:St}{H:Hp}{s s':aj}
theorem Inv.env0(I:Inv X pins σ H s):Cb X.prog X.w X.K X.mg X.base X.A X.stack s H:=
 ⟨I.ok.frames,I.ok.mod,I.bs,bg I.ok.Hk I.sz,I.stack,I.stkFree,I.fb,I.bare⟩
theorem Inv.after{Q:VK}{u:af}(I:Inv X pins σ H s)(h:CE X.stack X.prog X.w H s Q u s'):EP X pins σ Q u s':=by
 obtain⟨v,H',os,bare,un,fb,r,q⟩:=h;obtain⟨hh,g,d,t,MD⟩:=s';obtain rfl:MD=s.os:=os;exact⟨v,H',I.call (h':=hh) (g':=g) (d':=d) (t':=t) (ch:= []) un fb bare (fun b z=>absurd z (by simp)),r,q⟩
end
def Ql(sp:Sp)(yS:List V)(E:XK)(t:TA):TE:=fun σ H Q=>t σ H fun vs H1=>sp (vs ++ yS) H1 Q E
def Qz(C:ai)(m:Str)(sp:Sp)(yS:List V)(E:XK)(ta:TE)(t:TA):TE:=fun σ H Q=>ta σ H fun x H1=> ∃a dx fs,x= .ref a/\H1 a=some (.ins C dx fs)/\fs.lookup m=none/\
 t σ H1 fun vs H2=>sp (x::(vs ++ yS)) H2 Q E
def Qt(C:ai)(sp:Sp)(yS:List V)(E:XK)(t:TA):TE:=fun σ H Q=>t σ H fun vs H1=> ∀x dx,H1 x=none->H1 dx=none->dx≠x->
 sp (.ref x::(vs ++ yS)) (upd (upd H1 dx (.own x)) x (.ins C dx [])) (fun v H2=>v= .non/\Q (.ref x) H2) E
def Binds(K:aQ)(fd:bb)(ps:List Str)(ds:List af):Prop:=
 ∀(s:aj) (us:List af),K.In s.heap->(us ++ ds).length=ps.length->BindsTo s fd ⟨us, []⟩ (ps.zip (us ++ ds))
theorem Binds.all{K:aQ}{fd:bb}{ps:List Str}(h: ∀us:List af,us.length=ps.length->sA fd ⟨us, []⟩=pure (ps.zip us)):Binds K fd ps []:=fun s us _ hl=>by
 rw [bz]at hl ⊢;exact .of_eq (h us hl)
def Passes(CX:k_)(X:Cx)(E:XK):Prop:= ∀(pins:List (ai×Obj)) (σ:St) (H:Hp) (s:aj) (e:af) (s':aj),Inv X pins σ H s->CX X.stack H s E e s'->X.xe e s'
section
variable {X:Cx}{CX:k_}{k:Nat}{f C:ai}{fd:bb}{ps:List Str}{sp:Sp}{yS:List V}{ds:List af}{E:XK}{x m:Str}{p pos apos:Pos}{e o:Expr}{es:List Expr}{ta:TE}{t:TA}
theorem Hr{pins:List (ai×Obj)}{σ:St}{H:Hp}{s:aj}{Q:VK}{us:List af}{vs:List V}(F:mZ X.prog X.w X.K X.mg X.base CX k f fd ps sp)(hr:eW k X.A)(hb:Binds X.K fd ps ds)(hd:Vals yS ds)(hx:Passes CX X E)
  (I:Inv X pins σ H s)(r:Vals vs us)(h:sp (vs ++ yS) H Q E):av (aC X.prog X.w) X.A (call (.ref f) us) (EP X pins σ Q) X.xe s:=by
 have r2:Vals (vs ++ yS) (us ++ ds):=r.append hd;have hl:(us ++ ds).length=ps.length:=by rw [<-r2.length]; exact F.len _ _ _ _ h
 refine wpAny_call (om (F.run X.A X.stack s H ⟨us, []⟩ (us ++ ds) (vs ++ yS) Q E hr I.env0 (hb s us I.kIn hl) r2 h) fun r s' hq=> ?_);cases r with
 | error e=>exact hx pins σ H s e s' I hq
 | ok fl=>
  cases fl with
  | ret u=>exact I.after hq
  | next=>exact gg hq
  | brk=>exact gg hq
  | cont=>exact gg hq
theorem sQ(F:mZ X.prog X.w X.K X.mg X.base CX k f fd ps sp)(hr:eW k X.A)(hg:Gl X x)(hm:X.mg x=some (.ref f))(hk:gz X.K (.ref f)=true)(hb:Binds X.K fd ps ds)(hd:Vals yS ds)(hx:Passes CX X E)
  (ha:PA X (e::es) t)(p9:(x==("__debug__":Str))=false:=by decide)(he:ax (e::es) X.env=(false,bV e X.env)::ax es X.env:=by rfl)(hpl:(fc pos (ax es X.env)).any (·.1)=false:=by rfl):
  PE X (.Call (.Name x p) (e::es) [] pos) (Ql sp yS E t):=by
 intro pins s σ H Q I h;refine rD (sJ I hg hm ?_ p9);refine PySem.W.callWith_K (h₀:=X.base) I.ok.mod.Ga hk (fx (ha pos pins s σ H _ I h) fun us s1 ⟨vs,H1,I1,r,q⟩=>⟨I1.kIn, ?_⟩) he hpl;exact Hr F hr hb hd hx I1 r q
theorem GA{pl:Sem Bool}(he:PE X o ta)(c:BN X.K C)(hm:Meth X.K C m f)(F:mZ X.prog X.w X.K X.mg X.base CX k f fd ps sp)(hr:eW k X.A)(hb:Binds X.K fd ps ds)(hd:Vals yS ds)(hx:Passes CX X E)
  (ht:bV (.Call (.Attribute o m apos) [] [] pos) X.env=(do
   let ov<-bV o X.env
   standAt apos.atName
   let(f,first)<-kX [ov] (getMethod ov m pl)
   callWith pos f first (fc pos (ax [] X.env)) (backToKw pos (FQ [] X.env))):=by rfl):
  PE X (.Call (.Attribute o m apos) [] [] pos) (Qz C m sp yS E ta QA):=by
 intro pins s σ H Q I h;refine PySem.W.methodCall_KW (pl:=pl) (fx (he pins s σ H _ I h) fun u s1 ⟨x,H1,I1,rx,a,dx,fs,ex,ea,l,q⟩=> ?_) ht;subst ex;obtain rfl:u=au a:=rx;refine B7 I1 ea c hm l ?_;exact PySem.W.callWith_K0 (first:= [.ref a]) I1.kIn hm.kp (Hr (us:= [.ref a]) (vs:= [.ref a]) F hr hb hd hx I1 (.cons rfl .nil) q)
structure Mk(K:aQ)(C f:ai):Prop where
 makes:NK K C=true
 init:cA K (.ref C) "__init__"=some (some (.ref f))
 fn:sv K (.ref f)=true
 kp:gz K (.ref C)=true
theorem Jf{pins:List (ai×Obj)}{σ:St}{H:Hp}{s:aj}{Q:VK}{us:List af}{vs:List V}(M:Mk X.K C f)(F:mZ X.prog X.w X.K X.mg X.base CX k f fd ps sp)(hr:eW (k+1) X.A)(hb:Binds X.K fd ps ds)(hd:Vals yS ds)
  (hx:Passes CX X E)(I:Inv X pins σ H s)(r:Vals vs us)
  (h: ∀x dx,H x=none->H dx=none->dx≠x->sp (.ref x::(vs ++ yS)) (upd (upd H dx (.own x)) x (.ins C dx [])) (fun v H2=>v= .non/\Q (.ref x) H2) E):
  av (aC X.prog X.w) X.A (call (.ref C) us) (EP X pins σ Q) X.xe s:=by
 have hq:=h (s.heap.objs.size+1) s.heap.objs.size (I.fb.fresh (FR _)) (I.fb.fresh (ay _)) (aN (gA _));have I2:=Inv.made (C:=C) I;have r2:Vals (V.ref (s.heap.objs.size+1)::(vs ++ yS)) (au (s.heap.objs.size+1)::(us ++ ds)):= .cons rfl (r.append hd);have hl:(au (s.heap.objs.size+1)::us ++ ds).length=ps.length:=by
  have e:=r2.length;rw [F.len _ _ _ _ hq]at e;exact e.symm
 refine wpAny_call (Hc (f:=f) I.kIn M.makes M.init (beq_iff_eq.mp M.fn) (om (F.run _ X.stack _ _ ⟨au (s.heap.objs.size+1)::us, []⟩ (au (s.heap.objs.size+1)::(us ++ ds)) _ _ E (hr.make C us [])
  (I2.env0.make C us []) (hb _ (au (s.heap.objs.size+1)::us) I2.kIn hl) r2 hq) fun r s' JW=> ?_))
 cases r with
 | error e=>exact hx pins σ _ _ e s' I2 JW
 | ok fl=>
  cases fl with
  | ret u=>
   obtain⟨v,H',I3,rv,ev,q3⟩:=I2.after JW;subst ev;exact⟨rv,⟨V.ref (s.heap.objs.size+1),H',I3,rfl,q3⟩⟩
  | next=>exact gg JW
  | brk=>exact gg JW
  | cont=>exact gg JW
theorem Lx(M:Mk X.K C f)(F:mZ X.prog X.w X.K X.mg X.base CX k f fd ps sp)(hr:eW (k+1) X.A)(hg:Gl X x)(hm:X.mg x=some (.ref C))(hb:Binds X.K fd ps ds)(hd:Vals yS ds)(hx:Passes CX X E)
  (ha:PA X (e::es) t)(p9:(x==("__debug__":Str))=false:=by decide)(he:ax (e::es) X.env=(false,bV e X.env)::ax es X.env:=by rfl)(hpl:(fc pos (ax es X.env)).any (·.1)=false:=by rfl):
  PE X (.Call (.Name x p) (e::es) [] pos) (Qt C sp yS E t):=by
 intro pins s σ H Q I h;refine rD (sJ I hg hm ?_ p9);refine PySem.W.callWith_K (h₀:=X.base) I.ok.mod.Ga M.kp (fx (ha pos pins s σ H _ I h) fun us s1 ⟨vs,H1,I1,r,q⟩=>⟨I1.kIn, ?_⟩) he hpl;exact Jf M F hr hb hd hx I1 r q
end
structure bM(N P:List Str)(sc:iF):Prop where
 kind:sc.kind= .function
 co:sc.isCoroutine=false
 gen:sc.isGenerator=false
 nd:N.Nodup
 pre:N.take P.length=P
 par: ∀x∈P,sc.names.lookup x=some .local\/sc.names.lookup x=some .cell
 OE: ∀y∈sc.names,y.2≠ .free
theorem l8{N P:List Str}{sc:iF}(a:sc.kind= .function:=by rfl)(b:sc.isCoroutine=false:=by rfl)(c:sc.isGenerator=false:=by rfl)(d:N.Nodup:=by decide +kernel)(e:N.take P.length=P:=by rfl)(f: ∀x∈P,sc.names.lookup x=some .local\/sc.names.lookup x=some .cell:=by decide +kernel)(g: ∀y∈sc.names,y.2≠ .free:=by decide +kernel):bM N P sc:=⟨a,b,c,d,e,f,g⟩
theorem xh{kindOf:Str->Option kx}{x:Str}: ∀{binds:List (Str×af)} {m:Str->Option af},(∀v,(x,v)∉binds)->bindL kindOf binds m x=m x
 | [],_,_=>rfl
 | (n,v)::r,m,h=>by
  unfold bindL;rw [xh fun w hw=>h w (c7 _ hw)]
  split
  ·have:x≠n:=by rintro rfl; exact h v dO
   simp [this]
  ·rfl
theorem xf{kindOf:Str->Option kx}{x:Str}: ∀{binds:List (Str×af)} {m:Str->Option af},(∀v,(x,v)∉binds)->bindC kindOf binds m x=m x
 | [],_,_=>rfl
 | (n,v)::r,m,h=>by
  unfold bindC;rw [xf fun w hw=>h w (c7 _ hw)]
  split
  ·rfl
  ·have:x≠n:=by rintro rfl; exact h v dO
   simp [this]
theorem wI{kindOf:Str->Option kx}{x:Str}{v:af}: ∀{P:List Str} {vs:List af} {i:Nat} {m:Str->Option af},P.Nodup->P[i]? =some x->vs[i]? =some v->kindOf x=some .local->
  bindL kindOf (P.zip vs) m x=some v
 | [],_,_,_,_,h,_,_=>by simp at h
 | _::_, [],_,_,_,_,h,_=>by simp at h
 | p::P,w::vs,0,m,nd,h1,h2,hk=>by
  simp at h1 h2; subst h1; subst h2;show bindL kindOf ((p,w)::P.zip vs) m p=_;unfold bindL;rw [xh fun v hv=>(eG.mp nd).1 (wx hv).1,if_pos hk];simp
 | p::P,w::vs,i+1,m,nd,h1,h2,hk=>by
  show bindL kindOf ((p,w)::P.zip vs) m x=_;unfold bindL;exact wI (i:=i) (eG.mp nd).2 (by simpa using h1) (by simpa using h2) hk
theorem w9{kindOf:Str->Option kx}{x:Str}{v:af}: ∀{P:List Str} {vs:List af} {i:Nat} {m:Str->Option af},P.Nodup->P[i]? =some x->vs[i]? =some v->kindOf x≠some .local->
  bindC kindOf (P.zip vs) m x=some v
 | [],_,_,_,_,h,_,_=>by simp at h
 | _::_, [],_,_,_,_,h,_=>by simp at h
 | p::P,w::vs,0,m,nd,h1,h2,hk=>by
  simp at h1 h2; subst h1; subst h2;show bindC kindOf ((p,w)::P.zip vs) m p=_;unfold bindC;rw [xf fun v hv=>(eG.mp nd).1 (wx hv).1,if_neg hk];simp
 | p::P,w::vs,i+1,m,nd,h1,h2,hk=>by
  show bindC kindOf ((p,w)::P.zip vs) m x=_;unfold bindC;exact w9 (i:=i) (eG.mp nd).2 (by simpa using h1) (by simpa using h2) hk
def start(N:List Str)(vs:List V):St:=vs.map some ++ fD (N.length - vs.length) none
def pb(CX:k_)(P:aH)(w:aW)(K:aQ)(mg:Str->Option af)(base:aY)(N:List Str)(qual:Str)(scope:iF)(f:ai)(cd:af)(A:bA)(outer:List Env)(s:aj)(H:Hp)(E:XK):Cx where
 prog:=P
 w:=w
 K:=K
 mg:=mg
 base:=base
 A:=A.deeper (mM qual scope s.heap.objs.size f cd)
 N:=N
 s₀:=s
 H₀:=H
 env:=mM qual scope s.heap.objs.size f cd
 outer:=outer
 stack:=mM qual scope s.heap.objs.size f cd::outer
 ex:= []
 calm:=true
 fn:=fun _=>true
 pn:= []
 xe:=fun e s'=>av (aC P w) (A.deeper (mM qual scope s.heap.objs.size f cd)) (leaving (mM qual scope s.heap.objs.size f cd) e) (fun _ RJ=>CX outer H s E e RJ) (fun e' RJ=>CX outer H s E e' RJ) s'
theorem zO{sc:iF}{n:Nat}{x:Str}(h:sc.names.lookup x=some .cell): ∃c,(cellsFrom n sc.names []).lookup x=some c:=by
 have q:=PySem.W.cellsFrom_some sc.names n [] (.inl h);exact Option.isSome_iff_exists.mp q
theorem EB{CX:k_}{P:aH}{w:aW}{K:aQ}{mg:Str->Option af}{base:aY}{N ps:List Str}{qual:Str}{scope:iF}{f:ai}{cd:af}{A:bA}{outer:List Env}{s s1:aj}{H:Hp}{E:XK}{us:List af}{vs:List V}
  (S:bM N ps scope)(hd:A.handled=none)(e0:Cb P w K mg base A outer s H)(hl:vs.length=ps.length)(r:Vals vs us)
  (x:InCallC s s.heap.objs.size (bindL (mM qual scope s.heap.objs.size f cd).kindOf (ps.zip us) fun _=>none) (cellsFrom (s.heap.objs.size+1) scope.names []) (bindC (mM qual scope s.heap.objs.size f cd).kindOf (ps.zip us) fun _=>none) s1):
  Inv (pb CX P w K mg base N qual scope f cd A outer s H E) [] (start N vs) H s1:=by
 have hpl:ps.length<=N.length:=by have:=congrArg eS S.pre; rw [bh]at this; omega
 obtain⟨h1,tk,rfl,hk⟩:=x.done;have Rb: ∀b:ai,b∉(pb CX P w K mg base N qual scope f cd A outer s H E).ex:=fun b z=>absurd (show b∈([]:List ai)from z) (by simp);refine⟨⟨e0.mod,S.kind,rfl,rfl,ay _,fun y z c h1 h2=> ?_,fun y hy=> ?_,fun y c _ h=> ?_,fun _=>hd,Around.frames_deeper e0.frames, .inr ⟨rfl,rfl⟩,fun b z=>absurd z (Rb b),e0.bs,e0.Hk,fun b _ _=>Rb b,fun b z=>absurd z (Rb b),e0.rA,e0.Nj⟩,
  rfl,e0.bare,Un.kept hk,⟨_,x.toInCall.ns,fun i y v h1 h2 h3=> ?_⟩,fun y c h=>⟨_,x.cell y c h⟩,e0.fb.fresh (ay _),fun y c h=> ?_,fun p hp=>absurd (show p∈([]:List (ai×Obj))from hp) (by simp),e0.fb.kept hk, ?_⟩
 ·exact name_of_addr x.apart (cX h1) (cX h2)
 ·have hy:scope.names.lookup y=some .cell\/scope.names.lookup y=some .free:=hy
  rcases hy with hy | hy
  ·exact zO hy
  ·exact absurd rfl (S.OE _ (cX hy))
 ·exact jw (x.above y c (cX h))
 ·have hi:i < vs.length:=by
   unfold start at h2
   by_cases hi:i < vs.length
   ·exact hi
   ·rw [cL (by simpa using hi)]at h2;rw [BF]at h2
    split at h2 <;> cases h2
  have ha:vs[i]? =some v:=by
   unfold start at h2;rw [cS (by simpa using hi),aA]at h2;cases e:vs[i]? with
   | none=>rw [e]at h2; cases h2
   | some a=>rw [e]at h2; cases h2; rfl
  obtain⟨u,hu,rv⟩:=r.get ha;have hp:ps[i]? =some y:=by
   rw [<-S.pre,List.getElem?_take_of_lt (by omega)]; exact h1
  have XC:ps.Nodup:=by rw [<-S.pre]; exact S.nd.sublist (jx _ _)
  refine⟨u,rv, ?_⟩
  rcases S.par y (aR hp)with k | k
  ·exact .inl ⟨k,wI XC hp hu k⟩
  ·obtain⟨c,e⟩:=zO (n:=s.heap.objs.size+1) k;refine .inr ⟨.inl k,c,e, ?_⟩;have q:=x.cell y c e;rw [w9 XC hp hu (by show scope.names.lookup y≠_; rw [k]; decide)]at q;exact q
 ·exact e0.fb.fresh (jw (x.above y c (cX h)))
 ·unfold start;show _=N.length;rw [aq,ae,jX];omega
theorem zI{CX:k_}{P:aH}{w:aW}{K:aQ}{mg:Str->Option af}{base:aY}{k:Nat}{f:ai}{name qual:Str}{params:Arguments}{body:List cF}{scope:iF}{dV kV doc pm dX ct oc:af}{an od:Option ai}
  {vK:Array (Option af)}{N ps:List Str}{sp:Sp}(lk:K.lookup f=some ⟨oc,od, .func (eP name qual params body scope dV kV doc pm an dX ct),vK⟩)(kc:qa K dX qual=true)(S:bM N ps scope)
  (len: ∀vs H Q E,sp vs H Q E->vs.length=ps.length)
  (Q9: ∀(A:bA) (outer:List Env) (s:aj) (H:Hp) (vs:List V) (Q:VK) (E:XK),eW k (A.deeper (mM qual scope s.heap.objs.size f dX))->sp vs H Q E->
   ∃t,B8 (pb CX P w K mg base N qual scope f dX A outer s H E) body t/\t {nx:=fun _ H'=>Q .non H',rt:=Q} (start N vs) H):
  mZ P w K mg base CX (k+1) f (eP name qual params body scope dV kV doc pm an dX ct) ps sp:=by
 refine⟨len,fun A outer s H args us vs Q E hr e0 hb r BC=> ?_⟩;have hl:=len _ _ _ _ BC;have KX:K.In s.heap:=e0.mod.Ga.keeps fun b o e=>(e0.bs b o e).1;have lim:s.heap.NoLimit:=e0.mod.nolimit.keeps fun b o e=>(e0.bs b o e).1;have RT: ∀y∈ps.zip us,scope.names.lookup y.1=some .local\/(scope.names.lookup y.1=some .cell/\((cellsFrom (s.heap.objs.size+1) scope.names []).lookup y.1).isSome=true):=fun⟨n,v⟩ hy=>by
  rcases S.par n (wx hy).1 with q | q
  ·exact .inl q
  ·exact .inr ⟨q,PySem.W.cellsFrom_some _ _ _ (.inl q)⟩
 refine codeAny_call_function hr.depth (KX _ _ lk) rfl S.co S.gen rfl (PySem.W.codeRec_of KX kc) (hb _ _ _ _ ?_);refine wpAny_newFunctionEnv_cells S.kind RT fun env he s1 x=> ?_;subst he;refine⟨lim.keeps x.toInCall.keep,codeAny_func ?_⟩;obtain⟨t,ht,hq⟩:=Q9 A outer s H vs Q E (hr.deeper _) BC;have I:Inv (pb CX P w K mg base N qual scope f dX A outer s H E) [] (start N vs) H s1:=EB S hr.hd e0 hl r x;refine b_ (ht [] s1 (start N vs) H _ I hq) (fun fl s' hs=> ?_) fun e s' hs=>hs;have fin: ∀{fA:St} {H':Hp} {v:V} {u:af},Inv (pb CX P w K mg base N qual scope f dX A outer s H E) [] fA H' s'->RelV v u->Q v H'->CE outer P w H s Q u s':=
  fun{fA H' v u} J rv q=>⟨v,H',J.os,J.bare,J.base,J.fb,rv,q⟩
 cases fl with
 | ret u=>
  obtain⟨v,fA,H',J,rv,q⟩:=hs;exact fin J rv q
 | next=>
  obtain⟨fA,H',J,q⟩:=hs;exact fin (v:=V.non) (u:=bD) J rfl q
 | brk=>
  obtain⟨_,_,_,q⟩:=hs;exact gg q
 | cont=>
  obtain⟨_,_,_,q⟩:=hs;exact gg q
end L2
namespace L2
open PySem PySem.Spec PyProof.Rows
section
variable {X:Cx}{x:Str}{p pos:Pos}{e:Expr}{es:List Expr}{t:TA}{id T:String}{r:List V->Hp->VK->Prop}
def Wj(r:List V->Hp->VK->Prop)(t:TA):TE:=fun σ H Q=>t σ H fun vs H1=>r vs H1 Q
theorem jU(hc:gW X (.builtin id) r)(hg:Gl X x)(hm:X.mg x=none)(hv:eA x=some (.builtin id))(ha:PA X (e::es) t)(hn:x≠"__name__":=by decide)(p9:(x==("__debug__":Str))=false:=by decide)
  (he:ax (e::es) X.env=(false,bV e X.env)::ax es X.env:=by rfl)(hpl:(fc pos (ax es X.env)).any (·.1)=false:=by rfl):PE X (.Call (.Name x p) (e::es) [] pos) (Wj r t):=by
 intro pins s σ H Q I h;refine rD (rd I hg hm hv ?_ hn p9);exact PyProof.Rows.callWith_builtin1 (fx (ha pos pins s σ H _ I h) fun us s1 ⟨vs,H1,I1,r1,q1⟩=>hc pins s1 σ H1 vs us Q I1 r1 q1) he hpl
theorem jr(hc:gW X (.type T) r)(hg:Gl X x)(hm:X.mg x=none)(hv:eA x=some (.type T))(ha:PA X (e::es) t)(hn:x≠"__name__":=by decide)(p9:(x==("__debug__":Str))=false:=by decide)
  (he:ax (e::es) X.env=(false,bV e X.env)::ax es X.env:=by rfl)(hpl:(fc pos (ax es X.env)).any (·.1)=false:=by rfl):PE X (.Call (.Name x p) (e::es) [] pos) (Wj r t):=by
 intro pins s σ H Q I h;refine rD (rd I hg hm hv ?_ hn p9);exact kY (fx (ha pos pins s σ H _ I h) fun us s1 ⟨vs,H1,I1,r1,q1⟩=>hc pins s1 σ H1 vs us Q I1 r1 q1) he hpl
end
end L2
namespace HT
open PySem PyProof.Rows
def lexLt:List Int->List Int->Bool
 | [], []=>false
 | [],_::_=>true
 | _::_, []=>false
 | x::xs,y::ys=>if x=y then lexLt xs ys else decide (x < y)
theorem uo(x y:Int)(xs ys:List Int):lexLt (x::xs) (y::ys)=if x=y then lexLt xs ys else decide (x < y):=rfl
theorem wg:lexLt [] []=false:=rfl
theorem uM(y:Int)(ys:List Int):lexLt [] (y::ys)=true:=rfl
theorem uv(x:Int)(xs:List Int):lexLt (x::xs) []=false:=rfl
theorem Jt(A:bA)(s:aj)(a:Int)(t:Tok)(c:Int)(u:Tok): ∃e,SeqAt.EqAt A s (.int a t) (.int c u) e/\(e=true↔a=c):=
 ⟨(a==c),SeqAt.EqAt.int_int a t c u,by simp⟩
theorem Io(A:bA)(s:aj)(a:Int)(t:Tok)(c:Int)(u:Tok)(prog:aH)(w:aW)(E:af->aj->Prop)(Q:af->aj->Prop)(h:Q (.bool (decide (a < c))) s):
  av (aC prog w) A (richCompare .Lt (.int a t) (.int c u)) Q E s:=
 (PyProof.Rows.lt_int h:av (aC prog w) A (cR .Lt (.int a t) (.int c u)) Q E s)
section
open PySem.SeqAt
open PySem.AutoSeq1 (wpAny_loadPart')
open PySem.MeetsSeq PySem.MeetsSeq2 PySem.MeetsSeq3
theorem vX(l b:ai)(items gZ:Array af)(n n2:Nat)(dd KJ:Option ai)(sl KC:Array (Option af))(ns ms:List Int)(hi:jy items.toList ns)(hj:jy gZ.toList ms):
  Meets (dH.«tuple.__lt__» ⟨[.ref l, .ref b], []⟩)
   (fun _ R s=>s.heap.get? l=some {cls:= .type "tuple",dict:=dd,data:= .seq items n,slots:=sl}/\s.heap.get? b=some {cls:= .type "tuple",dict:=KJ,data:= .seq gZ n2,slots:=KC}/\
    R (.ok (.ret (.bool (lexLt ns ms)))) s):=
 .of_wp fun prog w A R s h=>by
  obtain⟨hp,g,d,tk,os⟩:=s; obtain⟨hl,hb,h⟩:=h;have f2:=iP;have z1:items.size=ns.length:=by rw [<-hi.length]; simp
  have z2:gZ.size=ms.length:=by rw [<-hj.length]; simp
  wp_walk using wpAny_loadPart' hl,wpAny_loadPart' hb,ng _ (fun rest b s'=>b.1=none/\s'=⟨hp,g,d,tk,os⟩/\ ∃(vs ws:List af) (Kh PL:List Int),rest=vs.zip ws/\
   jy vs Kh/\jy ws PL/\Kh.length+gZ.size=PL.length+items.size/\R (.ok (.ret (.bool (lexLt Kh PL)))) ⟨hp,g,d,tk,os⟩) _
  case turn=>
   rintro⟨y,x⟩ rest b s' ⟨ki,rfl,vs,ws,Kh,PL,hz,UT,S0,hlen,hR⟩;cases UT with
   | nil=>rw [List.zip_nil_left]at hz; cases hz
   | cons a t hvi'=>
    cases S0 with
    | nil=>rw [List.zip_nil_right]at hz; cases hz
    | cons c u hwi'=>
     rw [rE]at hz;injection hz with hyx hrest;injection hyx with hy hx;subst hy hx;rw [uo]at hR;simp only [aK]at hlen;obtain⟨e,he,RX⟩:=Jt A.in1 ⟨hp,g,d,tk,os⟩ a t c u;refine aa (he prog w _ _ ?_);cases e with
     | true=>
      rw [if_pos (RX.mp rfl)]at hR
      wp_walk
      exact⟨rfl,rfl,_,_,_,_,hrest,hvi',hwi',by omega,hR⟩
     | false=>
      rw [if_neg (fun q=>absurd (RX.mpr q) aG)]at hR;have V5:=Io A.in1 ⟨hp,g,d,tk,os⟩ a t c u prog w
      wp_walk using V5
      exact⟨_,rfl,by simpa using hR⟩
  case fin=>
   rintro⟨b1,b2⟩ s' ⟨ki,rfl,vs,ws,Kh,PL,hz,UT,S0,hlen,hR⟩;simp only at ki;subst ki;have hv:lexLt Kh PL=decide (items.size < gZ.size):=by
    cases UT with
    | nil=>
     cases S0 with
     | nil=>
      simp only [dI]at hlen;rw [wg];exact(decide_eq_false (by omega)).symm
     | cons c u hw=>
      simp only [dI,aK]at hlen;rw [uM];exact(decide_eq_true (by omega)).symm
    | cons a t hv=>
     cases S0 with
     | nil=>
      simp only [dI,aK]at hlen;rw [uv];exact(decide_eq_false (by omega)).symm
     | cons c u hw=>
      rw [rE]at hz;cases hz
   rw [hv]at hR
   wp_walk
   exact⟨_,rfl,by simpa [Builtin.Tuple.tupleCompareSizes]using hR⟩
  case h=>
   exact⟨rfl,rfl,items.toList,gZ.toList,ns,ms,rfl,hi,hj,by omega,h⟩
end
section
variable {prog:aH}{w:aW}{A:bA}{E:af->aj->Prop}{s:aj}
theorem BX{l b:ai}{items gZ:Array af}{ns ms:List Int}{Q:af->aj->Prop}(hl:IsTup s.heap l items)(hb:IsTup s.heap b gZ)(hi:jy items.toList ns)(hj:jy gZ.toList ms)
  (hu:A.units < cLine)(h:Q (.bool (lexLt ns ms)) s):av (aC prog w) A (cR .Lt (.ref l) (.ref b)) Q E s:=by
 obtain⟨⟨cls,dd,data,sl⟩,ho,hc,n,hd⟩:=id hl;obtain⟨⟨Rk,KJ,data2,KC⟩,KN,Ef,n2,hd2⟩:=id hb;simp only at hc hd Ef hd2;subst hc hd Ef hd2;exact richCompare_meets_room (op:= .Lt) ⟨_,ho,rfl⟩ ⟨_,KN,rfl⟩ Eo PySem.F.entry_tuple_lt (PySem.F.args_tuple_lt_2 _ _) (vX l b items gZ n n2 dd KJ sl KC ns ms hi hj)
  ⟨ho,KN,show gf (lexLt ns ms)≠Value.notImplemented/\Q (.bool (lexLt ns ms)) s from⟨(fun x=>nomatch x),h⟩⟩ hu
theorem Lk{t b:ai}{vs ws:List af}{Q:af->aj->Prop}(ht:IsTup s.heap t vs.toArray)(hb:IsTup s.heap b ws.toArray)(hv:vs≠ [])
  (h1:ws= []->Q (.ref t) s)(h2:ws≠ []->Q (.ref s.heap.objs.size) {s with heap:=s.heap.push {cls:= .type "tuple",data:= .seq (vs ++ ws).toArray}})
  (hsz:vs.length+ws.length<=sizeLine):av (aC prog w) A (ku .Add (.ref t) (.ref b)) Q E s:=by
 obtain⟨⟨cls,dd,data,sl⟩,ho,hc,n,hd⟩:=id ht;obtain⟨⟨Rk,KJ,data2,KC⟩,KN,Ef,n2,hd2⟩:=id hb;simp only at hc hd Ef hd2;subst hc hd Ef hd2;have e:vs.toArray ++ ws.toArray=(vs ++ ws).toArray:=by simp
 by_cases hw:ws= []
 ·exact C3 ⟨_,ho,rfl⟩ ⟨_,KN,rfl⟩ MJ seq_tuple_add C4 BG (Bd _ _)
   (tuple_addW1 t b vs.toArray ws.toArray n n2 dd KJ sl KC (by simpa using hv) (by simp [hw])) ⟨ho,KN,h1 hw⟩
 ·refine C3 ⟨_,ho,rfl⟩ ⟨_,KN,rfl⟩ MJ seq_tuple_add C4 BG (Bd _ _)
   (tuple_addW2 t b vs.toArray ws.toArray n n2 dd KJ sl KC (by simpa using hv) (by simpa using hw) (by rw [aD,aD]; exact hsz)) ⟨ho,KN, ?_⟩
  rw [e];exact h2 hw
def gO(n d:Nat):Option Int->Nat
 | none=>d
 | some v=>if v < 0 then(v+(n:Int)).toNat else min v.toNat n
theorem OX(n d:Nat)(hd:d<=n)(o:Option Int):gO n d o<=n:=by
 cases o with
 | none=>exact hd
 | some v=>
  show(if v < 0 then(v+(n:Int)).toNat else min v.toNat n)<=n
  by_cases hv:v < 0
  ·rw [if_pos hv]; omega
  ·rw [if_neg hv]; exact kf _ _
theorem DO(v:Int)(n d:Nat):(if v < 0 then max (v+(n:Int)) 0 else min v (n:Int))=((gO n d (some v):Nat):Int):=by
 show(if v < 0 then max (v+(n:Int)) 0 else min v (n:Int))=(((if v < 0 then(v+(n:Int)).toNat else min v.toNat n):Nat):Int)
 by_cases hv:v < 0
 ·simp only [if_pos hv]; omega
 ·simp only [if_neg hv]; omega
theorem BO(lo hi:Option Int)(n:Nat):zd lo hi 1 (n:Int)=(((gO n 0 lo:Nat):Int),((gO n n hi:Nat):Int)):=by
 have h1: ¬((1:Int) < 0):=by omega
 unfold zd;simp only [h1,if_false];refine Prod.ext ?_ ?_
 ·cases lo with
  | none=>rfl
  | some v=>exact DO v n 0
 ·cases hi with
  | none=>rfl
  | some v=>exact DO v n n
theorem Cq(i j:Nat):mh (i:Int) (j:Int) 1=j - i:=by
 unfold mh;have h1:(1:Int) > 0:=by omega
 simp only [h1,if_true,Int.ediv_one]
 split <;> omega
theorem uI{v:af}{o:Option Int}{Q:Option Int->aj->Prop}(p:rF v o)(h:Q o s):av (aC prog w) A (Builtin.Slice.slicePartIndex v) Q E s:=by
 cases p with
 | none=>exact slicePart_none h
 | int i t=>exact slicePart_int h
theorem l_{sl:ai}{vl vu:af}{lo hi:Option Int}{n:Nat}{Q:Int×Int×Nat->aj->Prop}(hs:s.heap.IsSliceOf sl vl vu .none)(pl:rF vl lo)(pu:rF vu hi)
  (h:Q (((gO n 0 lo:Nat):Int),1,gO n n hi - gO n 0 lo) s):av (aC prog w) A (Builtin.Slice.sliceApplied (.ref sl) (pure (n:Int))) Q E s:=by
 obtain⟨os,Pp,Ei,RW⟩:=id hs;unfold Builtin.Slice.sliceApplied Builtin.Slice.sliceFields;refine aa (aa (bW Pp RW (x:=vl) rfl (aa (bW Pp RW (x:=vu) rfl (aa (bW Pp RW (x:= .none) rfl (ag ?_)))))));refine aa (slicePart_none ?_);show av _ _ (if((1:Int)==0)=true then _ else _) _ _ s;rw [if_neg (by decide)];refine aa (uI pl (aa (uI pu (aa (ag ?_)))));show av _ _ (match zd lo hi 1 (n:Int)with | (lo,hi)=>pure (lo,(1:Int),mh lo hi 1)) _ _ s;rw [BO lo hi n];show av _ _ (pure (((gO n 0 lo:Nat):Int),(1:Int),mh ((gO n 0 lo:Nat):Int) ((gO n n hi:Nat):Int) 1)) _ _ s;rw [Cq];exact ag h
theorem Ik(xs:Array af)(i k:Nat):((bj k).filterMap fun(m:Nat)=>xs[((i:Int)+(m:Int) * 1).toNat]?).toArray=((xs.toList.drop i).take k).toArray:=by
 have e:(fun(m:Nat)=>xs[((i:Int)+(m:Int) * 1).toNat]?)=fun m=>xs[i+m]? :=by
  funext m
  have:((i:Int)+(m:Int) * 1).toNat=i+m:=by omega
  rw [this]
 rw [e];have:=pick_run xs i k;rw [List.filterMap_map]at this;have e2:((fun x=>xs[x]?) ∘ fun x=>i+x)=fun m=>xs[i+m]? :=rfl;rw [e2]at this;rw [this]
theorem qu{t sl:ai}{items:Array af}{vl vu:af}{lo hi:Option Int}{Q:af->aj->Prop}(ht:IsTup s.heap t items)(hs:s.heap.IsSliceOf sl vl vu .none)(pl:rF vl lo)(pu:rF vu hi)
  (hw: ¬(gO items.size 0 lo=0/\gO items.size items.size hi=items.size))
  (h:Q (.ref s.heap.objs.size) {s with heap:=s.heap.push {cls:= .type "tuple",data:= .seq ((items.toList.drop (gO items.size 0 lo)).take (gO items.size items.size hi - gO items.size 0 lo)).toArray}})
  (hsz:items.size<=sizeLine):av (aC prog w) A (xq (.ref t) (.ref sl)) Q E s:=by
 have El:sizeOk (.seq ((items.toList.drop (gO items.size 0 lo)).take (gO items.size items.size hi - gO items.size 0 lo)).toArray):=by
  show((items.toList.drop (gO items.size 0 lo)).take (gO items.size items.size hi - gO items.size 0 lo)).toArray.size<=sizeLine;rw [aD,bh,bq,ao];omega
 have hj:gO items.size items.size hi<=items.size:=OX _ _ (ay _) hi;obtain⟨os,Pp,Ei,RW⟩:=id hs;have VX:s.TypeIs (.ref sl) "slice":=⟨os,Pp,Ei⟩;unfold xq
 try with_reducible refine bP ?_
 first | refine aa (ag ?_) | skip
 refine aa (wpAny_sequenceKey ht.typeIs (by decide) ?_);refine aa (c6 (name:=iA "__getitem__") ht.typeIs eJ
  (bU eJ ht.typeIs entry_tuple_getitem ?_ (args_tuple_getitem _ _)))
 show av _ _ (yX (.ref t) >>=_) _ _ s;refine aa (tupleItemsOf_ ht ?_);refine aa (fq VX ?_);rw [if_pos (by decide)];refine aa (l_ hs pl pu ?_);have Zd: ¬((((gO items.size 0 lo:Nat):Int)==0&&(1:Int)==1&&(gO items.size items.size hi - gO items.size 0 lo)==items.size)=true):=by
  intro q;rw [bN,bN]at q;have q1:((gO items.size 0 lo:Nat):Int)=0:=eq_of_beq q.1.1;have q2:gO items.size items.size hi - gO items.size 0 lo=items.size:=eq_of_beq q.2;exact hw ⟨by omega,by omega⟩
 show av _ _ (if(((gO items.size 0 lo:Nat):Int)==0&&(1:Int)==1&&(gO items.size items.size hi - gO items.size 0 lo)==items.size)=true then _ else _) _ _ s;rw [if_neg Zd,Ik]
 first
  | exact aa (m:=mO _) (bx (ag ⟨_,rfl,ag h⟩) El)
  | exact aa (m:=mO _) (bx (aa (ag (ag ⟨_,rfl,ag h⟩))) El)
  | exact aa (aa (m:=mO _) (bx (ag (ag ⟨_,rfl,ag h⟩)) El))
  | exact aa (aa (m:=mO _) (bx (ag ⟨_,rfl,ag h⟩) El))
end
end HT
namespace L2
open PySem PySem.Spec PyProof.Rows
abbrev TO:=St->Hp->(Option Int->Hp->Prop)->Prop
def PO(X:Cx)(e:Option Expr)(t:TO):Prop:=
 ∀(pins:List (ai×Obj)) (s:aj) (σ:St) (H:Hp) (Q:Option Int->Hp->Prop),Inv X pins σ H s->t σ H Q->
  av (aC X.prog X.w) X.A (evalPart e X.env) (fun u s'=> ∃o H',Inv X pins σ H' s'/\rF u o/\Q o H') X.xe s
def LX:TO:=fun _ H Q=>Q none H
def P6(t:TE):TO:=fun σ H Q=>t σ H fun x H1=> ∃i,x= .int i/\Q (some i) H1
theorem intsAre_of{ns:List Int}: ∀{us:List af},Vals (ns.map V.int) us->jy us ns:=by
 induction ns with
 | nil=>intro us r; rw [sC]at r; cases r; exact .nil
 | cons n ns ih=>
  intro us r;rw [a9]at r;cases r with
  | cons r1 r2=>
   obtain⟨t,e⟩:=r1;subst e;exact .cons n t (ih r2)
section
variable {X:Cx}{e:Expr}{te:TE}{lo hi:Option Expr}{tl th:TO}{pos p2:Pos}
theorem Lc:PO X none LX:=by
 intro pins s σ H Q I h;rw [evalPart_none];exact ag ⟨none,H,I, .none,h⟩
theorem Lu(h:PE X e te):PO X (some e) (P6 te):=by
 intro pins s σ H Q I hw;rw [evalPart_some];refine fx (h pins s σ H _ I hw) fun u s1 ⟨x,H1,I1,r1,q1⟩=> ?_;obtain⟨i,rfl,q⟩:=q1;obtain⟨t,rfl⟩:=r1;exact⟨some i,H1,I1, .int i t,q⟩
def Sq(X:Cx)(r:V->Option Int->Option Int->Hp->VK->Prop):Prop:=
 ∀(pins:List (ai×Obj)) (s:aj) (σ:St) (H:Hp) (x:V) (v vl vu:af) (lo hi:Option Int) (sl:ai) (Q:VK),Inv X pins σ H s->RelV x v->s.heap.IsSliceOf sl vl vu .none->rF vl lo->rF vu hi->r x lo hi H Q->
  ∃T id,typeLookup (.type T) "__getitem__"=pure (some (.builtin id))/\s.TypeIs v T/\av (aC X.prog X.w) X.A (xq v (.ref sl)) (EP X pins σ Q) X.xe s
def X8(r:V->Option Int->Option Int->Hp->VK->Prop)(te:TE)(tl th:TO):TE:=fun σ H Q=>te σ H fun x H1=>tl σ H1 fun l H2=>th σ H2 fun u H3=>r x l u H3 Q
theorem AL{r:V->Option Int->Option Int->Hp->VK->Prop}(hr:Sq X r)(he:PE X e te)(hl:PO X lo tl)(hu:PO X hi th):PE X (.Subscript e (.Slice lo hi none p2) pos) (X8 r te tl th):=by
 intro pins s σ H Q I h;refine Subscript_ (fx (he pins s σ H _ I h) fun v s1 ⟨x,H1,I1,r1,q1⟩=> ?_);refine wpAny_Slice (fx (hl pins s1 σ H1 _ I1 q1) fun vl s2 ⟨l,H2,I2,pl,q2⟩=>fx (hu pins s2 σ H2 _ I2 q2) fun vu s3 ⟨u,H3,I3,pu,q3⟩=> ?_);rw [evalPart_none];refine ag ?_;have I4:Inv X pins σ H3 {s3 with heap:=s3.heap.push {cls:= .type "slice",data:= .fields #[vl,vu, .none]}}:=I3.kept (t':=s3.toks) fun b ob q=>ah _ q;obtain⟨T,id,hT,ht,hg⟩:=hr pins {s3 with heap:=s3.heap.push {cls:= .type "slice",data:= .fields #[vl,vu, .none]}} σ H3 x v vl vu l u s3.heap.objs.size Q I4 r1 (Heap.IsSliceOf.new ..) pl pu q3;show av (aC X.prog X.w) X.A (subscriptTail e (.Slice lo hi none p2) v (.ref s3.heap.objs.size)) (EP X pins σ Q) X.xe {s3 with heap:=s3.heap.push {cls:= .type "slice",data:= .fields #[vl,vu, .none]}};exact tail_any (ops:= [.ref s3.heap.objs.size,v]) ht hT hg (by with_unfolding_all rfl)
def xB(xs:List V)(lo hi:Option Int):List V:=(xs.drop (HT.gO xs.length 0 lo)).take (HT.gO xs.length xs.length hi - HT.gO xs.length 0 lo)
theorem rU(xs:List V)(lo hi:Option Int):(xB xs lo hi).length<=xs.length:=by
 unfold xB;rw [bh,bq];omega
def TL(K:aQ):V->Option Int->Option Int->Hp->VK->Prop:=fun x lo hi H Q=> ∃a xs,x= .ref a/\k9 K H a xs/\
 ¬(HT.gO xs.length 0 lo=0/\HT.gO xs.length xs.length hi=xs.length)/\ ∀p,H p=none->Q (.ref p) (upd H p (.tup (xB xs lo hi)))
theorem N2:Sq X (TL X.K):=by
 intro pins s σ H x v vl vu lo hi sl Q I rx hs pl pu h;obtain⟨a,xs,rfl,hx,hw,q⟩:=h;cases rx;obtain⟨its,r,ht,hz⟩:=I.tuple hx;have hlen:its.toArray.size=xs.length:=by rw [aD]; exact r.length.symm
 refine⟨"tuple",_,eJ.lookup,ht.typeIs, ?_⟩;refine HT.qu ht hs pl pu (by rw [hlen]; exact hw) ?_ (by rw [hlen]; exact hz);rw [hlen];refine⟨.ref s.heap.objs.size,_,I.laid (t':=s.toks) (o:= .tup (xB xs lo hi)) (fun b ob q=>ah _ q) (ay _) ?_,rfl,q _ (I.fb.fresh (ay _))⟩;exact⟨bg (rU xs lo hi) hz,_,(r.drop (HT.gO xs.length 0 lo)).take (HT.gO xs.length xs.length hi - HT.gO xs.length 0 lo),IsTup.new _ _⟩
def P5(K:aQ):R2:=fun x y H Q=> ∃a b xs ys,x= .ref a/\y= .ref b/\k9 K H a xs/\k9 K H b ys/\xs≠ []/\xs.length+ys.length<=sizeLine/\
 (ys= []->Q (.ref a) H)/\(ys≠ []-> ∀p,H p=none->Q (.ref p) (upd H p (.tup (xs ++ ys))))
theorem Vals.nil_iff{xs:List V}{us:List af}(r:Vals xs us):us= []↔xs= []:=by
 cases r with
 | nil=>simp
 | cons _ _=>simp
theorem La:oP X (ku .Add) (P5 X.K):=by
 intro pins s σ H x y v u Q I rx ry h;obtain⟨a,b,xs,ys,rfl,rfl,ha,hb,hx,hz,q1,q2⟩:=h;cases rx;cases ry;obtain⟨its,r1,p1,_⟩:=I.tuple ha;obtain⟨iI,r2,p2,_⟩:=I.tuple hb;refine HT.Lk p1 p2 (fun z=>hx (r1.nil_iff.mp z)) (fun z=>⟨.ref a,H,I,rfl,q1 (r2.nil_iff.mp z)⟩) (fun z=> ?_) (by rw [<-r1.length, <-r2.length]; exact hz);refine⟨.ref s.heap.objs.size,_,I.laid (t':=s.toks) (o:= .tup (xs ++ ys)) (fun b ob q=>ah _ q) (ay _) ?_,rfl,q2 (fun w=>z (r2.nil_iff.mpr w)) _ (I.fb.fresh (ay _))⟩;exact⟨by rw [aq]; exact hz,_,r1.append r2,IsTup.new _ _⟩
end
end L2
namespace L2
open PySem PySem.Spec PyProof.Rows
def Ji(n:Nat)(i:Int):Option Nat:=if 0<=i then(if i < n then some i.toNat else none)else if -(n:Int)<=i then some (i+n).toNat else none
def vY{α:Type}(xs:List α)(i:Int):Option α:=(Ji xs.length i).bind fun j=>xs[j]?
theorem tH{n:Nat}{i:Int}{j:Nat}(h:Ji n i=some j):seqIndex? i n=some j/\j < n/\ -(n:Int)<=i/\i < n:=by
 unfold Ji at h
 by_cases h0:0<=i
 ·rw [if_pos h0]at h
  by_cases h1:i < n
  ·rw [if_pos h1]at h;have e:i.toNat=j:=aF h;exact⟨by rw [seqIndex_of h0 h1,e],by omega,by omega,h1⟩
  ·rw [if_neg h1]at h; cases h
 ·rw [if_neg h0]at h
  by_cases h1: -(n:Int)<=i
  ·rw [if_pos h1]at h;have e:(i+n).toNat=j:=aF h;exact⟨by rw [seqIndex_neg (by omega) h1,e],by omega,h1,by omega⟩
  ·rw [if_neg h1]at h; cases h
theorem yJ{α:Type}{xs:List α}{i:Int}{v:α}(h:vY xs i=some v): ∃j,seqIndex? i xs.length=some j/\xs[j]? =some v/\j < xs.length/\ -(xs.length:Int)<=i/\i < xs.length:=by
 unfold vY at h;cases e:Ji xs.length i with
 | none=>rw [e]at h; cases h
 | some j=>
  rw [e]at h;obtain⟨h1,h2,h3,h4⟩:=tH e;exact⟨j,h1,h,h2,h3,h4⟩
theorem xM{α:Type}{xs:List α}{j:Nat}{v:α}(h:xs[j]? =some v):vY xs (j:Int)=some v:=by
 have hj:j < xs.length:=(aB.mp h).1;have e:Ji xs.length (j:Int)=some j:=by
  unfold Ji;rw [if_pos (by omega),if_pos (by omega)]; simp
 unfold vY; rw [e]; exact h
def qA(b:Expr):Prop:= ∀o i,subscripted b false o i=operate [o,i] (xq o i)
def Sn(X:Cx)(r:R2):Prop:=
 ∀(value slice:Expr) (pins:List (ai×Obj)) (s:aj) (σ:St) (H:Hp) (x y:V) (v u:af) (Q:VK),Inv X pins σ H s->RelV x v->RelV y u->r x y H Q->
  subscripted slice false v u=operate [v,u] (xq v u)->av (aC X.prog X.w) X.A (subscriptTail value slice v u) (EP X pins σ Q) X.xe s
def XZ(X:Cx)(id:String)(r:V->List V->Hp->VK->Prop):Prop:=
 ∀(pins:List (ai×Obj)) (s:aj) (σ:St) (H:Hp) (x:V) (xs:List V) (v:af) (us:List af) (Q:VK),Inv X pins σ H s->RelV x v->Vals xs us->r x xs H Q->
  av (aC X.prog X.w) X.A (call (.builtin id) (v::us)) (EP X pins σ Q) X.xe s
section
variable {X:Cx}{a b:Expr}{ta tb:TE}{pos:Pos}
theorem Dt{r:R2}(hr:Sn X r)(ha:PE X a ta)(hb:PE X b tb)(hs:qA b):PE X (.Subscript a b pos) (Sh r ta tb):=by
 intro pins s σ H Q I h;exact Subscript_ (Oq ha hb I h fun v u s2 x y H2 I2 rx ry q=>hr a b pins s2 σ H2 x y v u Q I2 rx ry q (hs _ _))
def TN(K:aQ):R2:=fun x y H Q=> ∃p xs i v,x= .ref p/\y= .int i/\o6 K H p xs/\vY xs i=some v/\Q v H
def Tn(K:aQ):R2:=fun x y H Q=> ∃p xs i v,x= .ref p/\y= .int i/\k9 K H p xs/\vY xs i=some v/\Q v H
theorem Ld:Sn X (TN X.K):=by
 intro value slice pins s σ H x y v u Q I rx ry h hs;obtain⟨p,xs,i,z,rfl,rfl,hq,he,q⟩:=h;cases rx;obtain⟨t,rfl⟩:=ry;obtain⟨its,r,pl,hz⟩:=I.list hq;obtain⟨j,h1,h2,h3,h4,h5⟩:=yJ he;obtain⟨w,ew,Q3⟩:=r.get h2;have hl:=r.length;have hn:=yG;have fin:EP X pins σ Q w s:=⟨z,H,I,Q3,q⟩
 by_cases h0:0<=i
 ·have hj:i.toNat=j:=by
   rw [seqIndex_of h0 h5]at h1;exact aF h1
  exact item_listR pl.isList h0 (by omega) (by rw [hj]; simpa using ew) fin hs
 ·have hj:(i+(its.toArray.size:Int)).toNat=j:=by
   rw [seqIndex_neg (by omega) h4]at h1;rw [aD, <-hl];exact aF h1
  exact C5 (x:=w) pl.isList.typeIs slot_list_getitem.lookup
   (wpAny_getItem_list_neg (Q:=fun r s'=>r=w/\EP X pins σ Q r s') pl.isList (by omega) (by rw [aD] <;> omega) (by omega) (by rw [hj]; simpa using ew) ⟨rfl,fin⟩) hs
theorem IV:Sn X (Tn X.K):=by
 intro value slice pins s σ H x y v u Q I rx ry h hs;obtain⟨p,xs,i,z,rfl,rfl,hq,he,q⟩:=h;cases rx;obtain⟨t,rfl⟩:=ry;obtain⟨its,r,pl,hz⟩:=I.tuple hq;obtain⟨j,h1,h2,h3,h4,h5⟩:=yJ he;obtain⟨w,ew,Q3⟩:=r.get h2;have hl:=r.length;have hn:=yG;have fin:EP X pins σ Q w s:=⟨z,H,I,Q3,q⟩;exact C5 (x:=w) pl.typeIs slot_tuple_getitem.lookup
  (getItem_tuple (j:=j) (Q:=fun r s'=>r=w/\EP X pins σ Q r s') pl (by omega) (by omega) (by rw [aD, <-hl]; exact h1) (by simpa using ew) ⟨rfl,fin⟩) hs
theorem Cw(its:List af)(n j:Nat)(u:af):dP (·.setIfInBounds j u) {cls:= .type "list",data:= .seq its.toArray n}={cls:= .type "list",data:= .seq (its.set j u).toArray n}:=by
 simp [dP]
theorem Inv.lst{pins:List (ai×Obj)}{σ:St}{H:Hp}{s:aj}{p:ai}{xs:List V}(I:Inv X pins σ H s)(h:H p=some (.lst xs)):
  ∃(its:List af) (n:Nat),Vals xs its/\s.heap.get? p=some {cls:= .type "list",data:= .seq its.toArray n}/\xs.length<=sizeLine:=by
 obtain⟨z,its,n,r,e⟩:=I.fb p _ h;exact⟨its,n,r,e,z⟩
theorem Inv.lstUpd{pins:List (ai×Obj)}{σ:St}{H:Hp}{s:aj}{p:ai}{xs ys:List V}{its its':List af}{n n':Nat}{f:Obj->Obj}(I:Inv X pins σ H s)(h:H p=some (.lst xs))
  (ho:s.heap.get? p=some {cls:= .type "list",data:= .seq its.toArray n})(hf:f {cls:= .type "list",data:= .seq its.toArray n}={cls:= .type "list",data:= .seq its'.toArray n'})(r:Vals ys its')(hz:ys.length<=sizeLine)(t:Nat):
  Inv X pins σ (upd H p (.lst ys)) {s with heap:=s.heap.update p f,toks:=t}:=by
 have e:(s.heap.update p f).get? p=some {cls:= .type "list",data:= .seq its'.toArray n'}:=by
  rw [dw f ho (by rw [hf] <;> rfl),hf]
 refine I.write (x:=p) (e:=p) (by rw [h]; trivial) (.inl rfl) (fun b u hb q=>(eB _ _ (qi hb)).trans q) ⟨_,e⟩ ?_;exact⟨hz,its',n',r,e⟩
def QB:V->V->V->Hp->(Hp->Prop)->Prop:=fun o i v H Q=> ∃p xs k j,o= .ref p/\i= .int k/\H p=some (.lst xs)/\Ji xs.length k=some j/\Q (upd H p (.lst (xs.set j v)))
theorem set_list:P0 X QB:=by
 intro pins s σ H o i v ov iv u Q I ro ri rv h;obtain⟨p,xs,k,j,rfl,rfl,hp,hj,q⟩:=h;cases ro;obtain⟨t,rfl⟩:=ri;obtain⟨its,n,r,ho,hz⟩:=I.lst hp;obtain⟨h1,h2,h3,h4⟩:=tH hj;have hl:=r.length;have hn:=yG;have I':Inv X pins σ (upd H p (.lst (xs.set j v))) {s with heap:=s.heap.update p (dP (·.setIfInBounds j u))}:=
  I.lstUpd hp ho (Cw its n j u) (r.set rv j) (by rw [bF]; exact hz) s.toks
 by_cases h0:0<=k
 ·have hk:k.toNat=j:=by
   rw [seqIndex_of h0 h4]at h1;exact aF h1
  exact PySem.W.ki_setAt ho h0 (by omega) (by rw [aD, <-hl]; exact h4) (by rw [hk]; exact⟨_,I',q⟩)
 ·have hk:(k+(its.toArray.size:Int)).toNat=j:=by
   rw [seqIndex_neg (by omega) h3]at h1;rw [aD, <-hl];exact aF h1
  exact PySem.W.ki_setBack ho (by omega) (by rw [aD, <-hl]; exact h3) (by omega) (by rw [hk]; exact⟨_,I',q⟩)
theorem yB(lo hi:Option Int)(n:Nat):(mr lo hi none n).1=((HT.gO n 0 lo:Nat):Int)/\(mr lo hi none n).2.1=((HT.gO n n hi:Nat):Int)/\(mr lo hi none n).2.2=1:=by
 refine⟨?_, ?_,rfl⟩
 ·cases lo with
  | none=>simp [mr,HT.gO]
  | some i=>
   simp only [mr,HT.gO,Option.getD_none,show(1:Int) > 0 by decide,if_true]
   by_cases h:i < 0
   ·simp only [h,if_true] <;> omega
   ·simp only [h,if_false] <;> omega
 ·cases hi with
  | none=>simp [mr,HT.gO]
  | some i=>
   simp only [mr,HT.gO,Option.getD_none,show(1:Int) > 0 by decide,if_true]
   by_cases h:i < 0
   ·simp only [h,if_true] <;> omega
   ·simp only [h,if_false] <;> omega
theorem v_(its:List af)(lo hi:Option Int):slicePick its.toArray lo hi none=((its.drop (HT.gO its.length 0 lo)).take (HT.gO its.length its.length hi - HT.gO its.length 0 lo)).toArray:=by
 obtain⟨h1,h2,h3⟩:=yB lo hi its.toArray.size;unfold slicePick;rw [h1,h2,h3];simp only [sliceRange_one,pick_run,aD] <;> rfl
def Ua(K:aQ):V->Option Int->Option Int->Hp->VK->Prop:=fun x lo hi H Q=> ∃a xs,x= .ref a/\o6 K H a xs/\ ∀p,H p=none->Q (.ref p) (upd H p (.lst (xB xs lo hi)))
theorem K_:Sq X (Ua X.K):=by
 intro pins s σ H x v vl vu lo hi sl Q I rx hs pl pu h;obtain⟨a,xs,rfl,hx,q⟩:=h;cases rx;obtain⟨its,r,ht,hz⟩:=I.list hx;have hlen:=r.length;refine⟨"list",_,slot_list_getitem.lookup,ht.isList.typeIs, ?_⟩;refine wpAny_getItem_list_slice ht.isList hs pl pu .none (by simp) ?_ (by rw [aD] <;> omega);rw [v_, <-hlen];refine⟨.ref s.heap.objs.size,_,I.laid (t':=s.toks) (o:= .lst (xB xs lo hi)) (fun b ob q=>ah _ q) (ay _) ?_,rfl,q _ (I.fb.fresh (ay _))⟩;exact⟨bg (rU xs lo hi) hz,_,0,(r.drop (HT.gO xs.length 0 lo)).take (HT.gO xs.length xs.length hi - HT.gO xs.length 0 lo),aw _ rfl⟩
theorem yc:gW X (.builtin "len") (fun xs H Q=> ∃p ys,xs= [.ref p]/\(o6 X.K H p ys\/k9 X.K H p ys)/\Q (.int ys.length) H):=by
 intro pins s σ H xs us Q I r h;obtain⟨p,ys,rfl,hq,q⟩:=h;obtain⟨u,rfl,rx⟩:=vals1 r;cases rx;have hn:=yG
 rcases hq with hq | hq
 ·obtain⟨its,r',pl,hz⟩:=I.list hq;have hlen:=r'.length;exact Calls.call_len_list pl.isList (by simp only [aD] <;> omega) ⟨.int ys.length,H,I.tok _,⟨s.toks+1,by rw [aD,hlen]⟩,q⟩
 ·obtain⟨its,r',pl,hz⟩:=I.tuple hq;have hlen:=r'.length;exact len_tuple pl (by simp only [aD] <;> omega) ⟨.int ys.length,H,I.tok _,⟨s.toks+1,by rw [aD,hlen]⟩,q⟩
theorem xS:gW X (.type "list") (fun xs H Q=> ∃p ys,xs= [.ref p]/\(o6 X.K H p ys\/k9 X.K H p ys)/\ ∀l,H l=none->Q (.ref l) (upd H l (.lst ys))):=by
 intro pins s σ H xs us Q I r h;obtain⟨p,ys,rfl,hq,q⟩:=h;obtain⟨u,rfl,rx⟩:=vals1 r;cases rx;have fin: ∀(its:List af),Vals ys its->ys.length<=sizeLine-> ∀(h':aY) (c':Nat),(∀b o',s.heap.get? b=some o'->h'.get? b=some o')->
   h'.get? s.heap.objs.size=some {cls:= .type "list",dict:=none,data:= .seq its.toArray c',slots:= #[]}->EP X pins σ Q (.ref s.heap.objs.size) {s with heap:=h'}:=fun its r' hz h' c' kp e=>
  ⟨.ref s.heap.objs.size,_,I.laid (t':=s.toks) kp (ay _) (show fJ X.prog X.w _ h' _ (.lst ys)from⟨hz,its,c',r',e⟩),rfl,q _ (I.fb.fresh (ay _))⟩
 rcases hq with hq | hq
 ·obtain⟨its,r',pl,hz⟩:=I.list hq;have hlen:=r'.length;obtain⟨o,ho,hc,n,hd⟩:=pl.isList;exact call_list_seq p (.inl rfl) ho hc hd (fun h' c' kp e=>fin its r' hz h' c' kp e) (by simp only [aD] <;> omega)
 ·obtain⟨its,r',pl,hz⟩:=I.tuple hq;have hlen:=r'.length;obtain⟨o,ho,hc,n,hd⟩:=pl;exact call_list_seq p (.inr rfl) ho hc hd (fun h' c' kp e=>fin its r' hz h' c' kp e) (by simp only [aD] <;> omega)
theorem vS:gW X (.type "tuple") (fun xs H Q=> ∃p ys,xs= [.ref p]/\((o6 X.K H p ys/\ ∀l,H l=none->Q (.ref l) (upd H l (.tup ys)))\/(k9 X.K H p ys/\Q (.ref p) H))):=by
 intro pins s σ H xs us Q I r h;obtain⟨p,ys,rfl,h⟩:=h;obtain⟨u,rfl,rx⟩:=vals1 r;cases rx
 rcases h with⟨hq,q⟩ | ⟨hq,q⟩
 ·obtain⟨its,r',pl,hz⟩:=I.list hq;have hlen:=r'.length;refine call_tuple_list pl.isList (fun h' kp=> ?_) (by simp only [aD] <;> omega);have I1:Inv X pins σ H {s with heap:=h'}:=I.kept (t':=s.toks) kp;have I2:Inv X pins σ (upd H h'.objs.size (.tup ys)) {s with heap:=h'.push {cls:= .type "tuple",data:= .seq its.toArray}}:=
   I1.laid (t':=s.toks) (fun b o e=>ah _ e) (ay _) (show fJ X.prog X.w _ _ _ (.tup ys)from⟨hz,its,r',IsTup.new _ _⟩)
  exact⟨.ref h'.objs.size,_,I2,rfl,q _ (I1.fb.fresh (ay _))⟩
 ·obtain⟨its,r',pl,hz⟩:=I.tuple hq;exact call_tuple_same pl ⟨.ref p,H,I,rfl,q⟩
def Wd(K:aQ)(T:String)(x:V)(H:Hp):Prop:=match x with
 | .str _=>T="str"
 | .int _=>T="int"
 | .ref p=>(T="list"/\ ∃xs,o6 K H p xs)\/(T="tuple"/\ ∃o,K.lookup p=some o/\o.cls= .type "tuple"/\o.dict=none)\/
   (T="dict"/\((∃vt,H p=some (.dK vt))\/ ∃vt,H p=some (.dT vt)))\/(T="set"/\ ∃S n,H p=some (.set S n))
 | _=>False
theorem Og{pins:List (ai×Obj)}{σ:St}{H:Hp}{s:aj}{T:String}{x:V}{v:af}(I:Inv X pins σ H s)(r:RelV x v)(ty:Wd X.K T x H):
  s.TypeIs v T/\ ∀a,v= .ref a-> ∃ob,s.heap.get? a=some ob/\ob.dict=none:=by
 cases x with
 | str z=>
  obtain⟨t,rfl⟩:=r;cases (show T="str" from ty);exact⟨typeIs_str s z t,fun _ e=>nomatch e⟩
 | int i=>
  obtain⟨t,rfl⟩:=r;cases (show T="int" from ty);exact⟨typeIs_int s i t,fun _ e=>nomatch e⟩
 | ref p=>
  cases r
  rcases ty with⟨rfl,xs,hq⟩ | ⟨rfl,o,hk,hc,hd⟩ | ⟨rfl,hk⟩ | ⟨rfl,S,n,hk⟩
  ·obtain⟨its,_,pl,_⟩:=I.list hq;refine⟨pl.isList.typeIs,fun a e=> ?_⟩;cases e;obtain⟨o,n,e,c,hd,_⟩:=pl;exact⟨o,e,hd⟩
  ·refine⟨⟨o,I.kIn p o hk,hc⟩,fun a e=> ?_⟩;cases e;exact⟨o,I.kIn _ o hk,hd⟩
  ·have z: ∃o,s.heap.get? p=some o/\o.ExactDict:=by
    rcases hk with⟨vt,hk⟩ | ⟨vt,hk⟩
    ·obtain⟨_,_,_,_,o,_,_,e,ex,_⟩:=I.fb p _ hk;exact⟨o,e,ex⟩
    ·obtain⟨_,_,_,_,o,_,_,e,ex,_⟩:=I.fb p _ hk;exact⟨o,e,ex⟩
   obtain⟨o,e,ex⟩:=z;refine⟨⟨o,e,ex.1⟩,fun a e2=> ?_⟩;cases e2;exact⟨o,e,ex.2.1⟩
  ·obtain⟨o,_,_,_,e,ex,_⟩:=I.fb p _ hk;refine⟨⟨o,e,ex.1⟩,fun a e2=> ?_⟩;cases e2;exact⟨o,e,ex.2.1⟩
 | _=>exact gg ty
def X5(K:aQ)(T:String)(r:V->List V->Hp->VK->Prop)(to:TE)(t:TA):TE:=fun σ H Q=>to σ H fun x H1=>Wd K T x H1/\t σ H1 fun xs H2=>r x xs H2 Q
variable {o e:Expr}{es:List Expr}{to:TE}{t:TA}{name:Str}{apos p7:Pos}{T id:String}{r:V->List V->Hp->VK->Prop}
theorem DF(pa:PlainAttrs T)(slot:Slot T name id)(Vq:typeOf (.builtin id)=pure (.type "method_descriptor"))(hm:XZ X id r)(ho:PE X o to)(ha:PA X (e::es) t)
  (Bb:kj o name X.env (bV o X.env)=bV o X.env:=by rfl)
  (A0:((fc p7 (ax (e::es) X.env)).all (fun x=> !x.1)&&(backToKw p7 (FQ [] X.env)).all (fun x=>x.1.isSome)
   &&decide ((e::es).length+([]:List Keyword).length+(if([]:List Keyword).isEmpty then 0 else 1) < 30))=true:=by rfl)
  (AY:(apos.endLine==p7.line)=true:=by rfl)(hs:ax (e::es) X.env=(false,bV e X.env)::ax es X.env:=by rfl)(Pb:(fc p7 (ax es X.env)).any (·.1)=false:=by rfl):
  PE X (.Call (.Attribute o name apos) (e::es) [] p7) (X5 X.K T r to t):=by
 intro pins s σ H Q I h;refine wpAny_Call_method_late Bb A0 AY rfl (fx (ho pins s σ H _ I h) fun v s1 ⟨x,H1,I1,r1,ty,q1⟩=> ?_);obtain⟨h1,h2⟩:=Og I1 r1 ty;refine⟨T,id,pa,slot,Vq,h1,h2, ?_⟩;have hA:=ha p7 pins s1 σ H1 _ I1 q1;rw [hs]at hA ⊢;refine Calls.callWith_builtin (by show(false || (fc p7 (ax es X.env)).any (·.1))=false; rw [Pb] <;> rfl) (Calls.evalArgs_plain ?_);exact fx hA fun us s2 ⟨vs,H2,I2,r2,q2⟩=>hm pins s2 σ H2 x vs v us Q I2 r1 r2 q2
end
end L2
namespace L2
open PySem PySem.Spec PyProof.Rows
def Sj(X:Cx)(id:String)(r:V->List V->Hp->VK->Prop):Prop:=
 ∀(pins:List (ai×Obj)) (s:aj) (σ:St) (H:Hp) (x:V) (xs:List V) (v:af) (us:List af) (Q:VK),Inv X pins σ H s->RelV x v->Vals xs us->r x xs H Q->
  av (aC X.prog X.w) X.A (call (.builtin id) (v::us)) (EP X pins σ Q) X.xe s
theorem Vals.one: ∀{x:V} {us:List af},Vals [x] us-> ∃u,us= [u]/\RelV x u
 | _,_, .cons r .nil=>⟨_,rfl,r⟩
theorem Vals.eraseIdx: ∀{xs:List V} {us:List af} (i:Nat),Vals xs us->Vals (xs.eraseIdx i) (us.eraseIdx i)
 | _,_,_, .nil=> .nil
 | _,_,0, .cons _ t=>t
 | _,_,i+1, .cons r t=> .cons r (Vals.eraseIdx i t)
theorem wK{α:Type}: ∀(l:List α) (i:Nat),(l.eraseIdx i).length<=l.length
 | [],_=>ay _
 | _::_,0=>FR _
 | _::r,i+1=>Nat.succ_le_succ (wK r i)
section
variable {X:Cx}{pins:List (ai×Obj)}{σ:St}{H:Hp}{s:aj}{l b:ai}{xs ys zs:List V}
theorem Inv.lset{its its':List af}{n:Nat}{f:Array af->Array af}{t':Nat}(I:Inv X pins σ H s)(hH:H l=some (.lst xs))
  (e:s.heap.get? l=some {cls:= .type "list",data:= .seq its.toArray n})(hf:f its.toArray=its'.toArray)(hv:Vals ys its')(hz:ys.length<=sizeLine):
  Inv X pins σ (upd H l (.lst ys)) {s with heap:=s.heap.update l (dP f),toks:=t'}:=by
 have q:=PySem.IsL.update e f;rw [hf]at q;refine I.write (x:=l) (e:=l) (by rw [hH]; exact trivial) (.inl rfl) (fun b' u hb hu=>(eB s.heap (dP f) (qi hb)).trans hu) ⟨_,q⟩ ?_;exact⟨hz,its',_,hv,q⟩
theorem Inv.lnew{its:List af}{t':Nat}(I:Inv X pins σ H s)(hv:Vals ys its)(hz:ys.length<=sizeLine):
  Inv X pins σ (upd H s.heap.objs.size (.lst ys)) {s with heap:=s.heap.push {cls:= .type "list",data:= .seq its.toArray},toks:=t'}:=
 I.laid (fun _ _ q=>ah _ q) (ay _) ⟨hz,its,0,hv,aw _ rfl⟩
theorem Inv.fresh(I:Inv X pins σ H s):H s.heap.objs.size=none:=I.fb.fresh (ay _)
theorem Inv.lstM(I:Inv X pins σ H s)(hH:H l=some (.lst xs)):xs.length<=sizeLine/\ ∃(its:List af) (n:Nat),Vals xs its/\xs.length=its.length/\s.heap.get? l=some {cls:= .type "list",data:= .seq its.toArray n}:=by
 obtain⟨z,its,n,r,e⟩:=I.fb l _ hH;exact⟨z,its,n,r,r.length,e⟩
theorem GZ{n:Nat}(h:n<=sizeLine):iQ n=false:=by
 unfold iQ;exact decide_eq_false (by omega)
end
section
variable {X:Cx}
def K8:V->List V->Hp->VK->Prop:=fun x vs H Q=> ∃l xs y,x= .ref l/\vs= [y]/\H l=some (.lst xs)/\xs.length < sizeLine/\Q .non (upd H l (.lst (xs ++ [y])))
theorem lW:Sj X "list.append" K8:=by
 intro pins s σ H x vs v us Q I rx rv h;obtain⟨l,xs,y,rfl,rfl,hH,hz,q⟩:=h;cases rx;obtain⟨u,rfl,ru⟩:=rv.one;obtain⟨z,its,n,r,hl,e⟩:=I.lstM hH;refine call_meets F.slot_list_append ⟨_,e,rfl⟩ F.entry_list_append (F.args_list_append_2 _ _) (PySem.list_append l its.toArray n u (by rw [aD]; omega)) ⟨e, ?_⟩;refine⟨.non,_,I.lset (its':=its ++ [u]) hH e (by simp) (r.append (.cons ru .nil)) ?_,rfl,q⟩;rw [aq,cj];omega
def N6:V->List V->Hp->VK->Prop:=fun x vs H Q=> ∃l xs i k y,x= .ref l/\vs= [.int i]/\H l=some (.lst xs)/\ -(2 ^ 63)<=i/\i < 2 ^ 63/\seqIndex? i xs.length=some k/\xs[k]? =some y/\Q y (upd H l (.lst (xs.eraseIdx k)))
theorem IG:Sj X "list.pop" N6:=by
 intro pins s σ H x vs v us Q I rx rv h;obtain⟨l,xs,i,k,y,rfl,rfl,hH,h1,h2,hk,hy,q⟩:=h;cases rx;obtain⟨u,rfl,ru⟩:=rv.one;obtain⟨t,rfl⟩:=ru;obtain⟨z,its,n,r,hl,e⟩:=I.lstM hH;obtain⟨w,hw,Q3⟩:=r.get hy;refine call_meets F.slot_list_pop ⟨_,e,rfl⟩ F.entry_list_pop (F.args_list_pop_2 _ _)
  (MeetsSeq.list_pop_at l its.toArray n i t k w (fitsIndex_both h1 h2) (by rw [aD, <-hl]; exact hk) (by rw [<-bf]; exact hw) (by rw [aD]; omega)) ⟨e, ?_⟩
 refine⟨y,_,I.lset (its':=its.eraseIdx k) hH e ?_ (r.eraseIdx k) ?_,Q3,q⟩
 ·show its.toArray.eraseIdxIfInBounds k=(its.eraseIdx k).toArray;rw [List.eraseIdxIfInBounds_toArray]
 ·have:=wK xs k;omega
end
end L2
namespace Att
open PySem PySem.W PySem.Calls PyProof.Rows
theorem r9{P:Params}{h:aY}: ∀(ns:List Int) (vs:List af),WellAll P h vs (ns.map WData.int)->jy vs ns:=by
 intro ns
 induction ns with
 | nil=>
  intro vs w;rw [sC]at w;cases w;exact .nil
 | cons n ns ih=>
  intro vs w;rw [a9]at w;cases w with
  | cons a b=>
   cases a;exact .cons _ _ (ih _ b)
theorem EW{l:OpenLaw}{n:Nat}(hn:l.most=some n){P:Params}{h:aY}{args:List WData}{vals:List af}
  (FE:l.row.toRowW.claim.pre args=true)(UX:WellAll P h vals args):
  ∃a vs ns,vals= [au a]/\args= [WData.list (ns.map WData.int)]/\h.get? a=some {cls:= .type "list",data:= .seq vs.toArray}/\jy vs ns/\ns.length<=n:=by
 have Zj:WShape.hasAll [] args [.list .int]=true:=(pre_splitW FE).1;have hc:l.pre.holds [] {args:=args}=true:=(pre_splitW FE).2;obtain⟨d,r,rfl,h1,h2⟩:=hasAllW_cons Zj;obtain rfl:=hasAllW_nil h2;obtain⟨xs,rfl,h3⟩:=hasW_list h1;obtain⟨ns,rfl⟩:=items_int h3;have hlen:ns.length<=n:=by
  unfold OpenLaw.pre at hc;have h4:(WTm.not (.lt (.lit (.int (n:Int))) (.len (.arg 0)))).holds [] {args:= [.list (ns.map .int)]}=true:=by
   have h4:=(holds_andW hc).1;rw [hn]at h4;exact h4
  have h5:=condW_of h4 (w_not (w_lt w_lit (w_len_list (w_arg rfl))));rw [ae]at h5;refine vB fun q=> ?_;have q':(n:Int) < ((ns.length:Nat):Int):=by omega
  first
   | (rw [decide_eq_true q']at h5; exact absurd h5 (by decide))
   | (simp at h5; omega)
 cases UX with
 | cons w1 w2=>
  cases w2;cases w1 with
  | list ho mf=>exact⟨_,_,ns,rfl,rfl,ho,r9 ns _ mf,hlen⟩
theorem Fs(l:OpenLaw)(args:List WData):l.row.toRowW.claim.post args (.bool true) args=true:=
 postW_of (r:=l.row.toRowW) (X:=(true==true))
  (show WShape.has [] (.bool true) .bool=true by first | rfl | decide | simp [WShape.has,WShape.arms,WShape.armsAll])
  (show(WTm.eq .res (.lit (.bool true))).value [] {args:=args,res:=some (.bool true),after:=args}=some (.bool (true==true))from w_eq_bool (w_res rfl) w_lit) rfl
theorem zX{l:OpenLaw}{n:Nat}{q:aH}{loose:List Str}{XP:(Str->Option af)->aY->Prop}{YP:aW->aY->Prop}{d:DefRec}
  (hn:l.most=some n)(Rj:d.params.defaults= [])
  (call: ∀(w:aW) (s₀ eK:aj) (mg mb:Str->Option af) (fa:ai) (o:Obj) (pm cd doc:af) (a:ai) (vs:List af) (ns:List Int),
   Ground q loose [] XP w s₀ mg mb eK.heap->YP w eK.heap->
   eK.heap.get? fa=some o->o.data= .func (docDef d.name d.params d.body d.scope pm cd doc)->eK.heap.CodeRec cd d.name->mg d.name=some (.ref fa)->
   eK.heap.get? a=some {cls:= .type "list",data:= .seq vs.toArray}->jy vs ns->ns.length<=n->eK.gens= #[]->
   gj (aC l.prog w) sD (.call (.ref fa) ⟨[.ref a], []⟩) (fun r s'=>r= .ok (.ret (.bool true))/\OldK eK.heap s'.heap/\s'.os=eK.os/\oi s'.gens) eK):
  WalkO q loose XP YP l.row.toRowW d [] (fun f vs=>PySem.call f vs):=by
 intro w s₀ eK mg mb G Y fa o pm cd doc dV kV ho hd kc hD MG hg args vals as FE Y7 hrd UX VW;obtain rfl:dV= .none:=Dflts.none hD Rj;obtain rfl:kV= .none:=Dflts.noKw hD;obtain⟨a,vs,ns,rfl,rfl,A6,hints,hlen⟩:=EW hn FE UX;refine enter_call (om (call w s₀ eK mg mb fa o pm cd doc a vs ns G Y ho (fd_plain hd) kc MG A6 hints hlen hg) fun r s' hq=> ?_);obtain⟨rfl,h2,h3,h4⟩:=hq;exact⟨.inl ⟨.bool true, .bool true, [],rfl,fun _=>rfl, .bool true,Fs l _,fun _=>⟨eY,fun _ hm=>(nomatch hm)⟩⟩,h2,h3,h4⟩
end Att
namespace L2
open PySem PySem.Spec PyProof.Rows
theorem wD: ∀{vs:List af} {ns:List Int},jy vs ns->Vals (ns.map V.int) vs
 | _,_, .nil=> .nil
 | _,_, .cons n t h=> .cons ⟨t,rfl⟩ (wD h)
def Ot(H:Hp):Prop:= ∀b,H b=none\/ ∃o xs,H b=some (.frz o (.lst xs))
theorem Hn{P:aH}{w:aW}{K:aQ}{mg mb:Str->Option af}{CX:k_}{k:Nat}{fa a:ai}{fd:bb}{x:Str}{sp:Sp}{eK:aj}{vs:List af}{ns:List Int}
  (KX:K.In eK.heap)(PN:eK.heap.Ns cz mg)(hb:eK.heap.Ns builtinsNs mb)(Zo: ∀x:Str,x≠"__name__"->mb x=eA x)(U2:eK.heap.NoLimit)(hg:eK.gens= #[])
  (ha:eK.heap.get? a=some {cls:= .type "list",data:= .seq vs.toArray})(hi:jy vs ns)(hl:ns.length<=sizeLine)(hr:eW k sD)
  (F: ∀base:aY,K.In base->base.Ns cz mg->mZ P w K mg base CX k fa fd [x] sp)(Q2: ∀(s:aj) (u:af),BindsTo s fd ⟨[u], []⟩ [(x,u)])
  (BC: ∀H:Hp,Ot H->o6 K H a (ns.map V.int)->sp [.ref a] H (fun v _=>v= .bl true) fun _ _ _=>False)
  (V1: ∀H e s',CX [] H eK (fun _ _ _=>False) e s'->False):
  gj (aC P w) sD (.call (.ref fa) ⟨[.ref a], []⟩) (fun r s'=>r= .ok (.ret (.bool true))/\OldK eK.heap s'.heap/\s'.os=eK.os/\oi s'.gens) eK:=by
 have rv:=wD hi;have Vt:=hi.length;have core: ∀H:Hp,Ot H->o6 K H a (ns.map V.int)->qh P w H eK.heap->(∀b,H b≠none->b=a)->(H a≠none->K.lookup a=none)->
   gj (aC P w) sD (.call (.ref fa) ⟨[.ref a], []⟩) (fun r s'=>r= .ok (.ret (.bool true))/\OldK eK.heap s'.heap/\s'.os=eK.os/\oi s'.gens) eK:=by
  intro H hO hS fb hA hK;have Ej: ∀{b:ai} {o:Obj},eK.heap.get? b=some o->H b=none->(xY eK.heap H).get? b=some o:=fun e n=>Hv e n;have Rb: ∀{b:ai} {o:Obj} {es:Array eN} {ep:Nat},eK.heap.get? b=some o->o.data= .dict es ep->H b=none:=fun{b o es ep} e d=>by
   cases q:H b with
   | none=>rfl
   | some u=>
    have e':b=a:=hA b (by rw [q]; simp);subst e';rw [ha]at e; cases e;have d':yY vs.toArray _=Data.dict es ep:=d;cases d'
  have SQ: ∀{b:ai} {m:Str->Option af},eK.heap.Ns b m->(xY eK.heap H).Ns b m:=fun{b m} ⟨o,es,ep,e,d,r⟩=>⟨o,es,ep,Ej e (Rb e d),d,r⟩;have WV:K.In (xY eK.heap H):=fun b o e=>Ej (KX b o e) (by
   cases q:H b with
   | none=>rfl
   | some u=>
    have e':b=a:=hA b (by rw [q]; simp);subst e';rw [hK (by rw [q]; simp)]at e; cases e)
  have hM:Mod K mg (xY eK.heap H):=⟨WV,SQ PN,⟨mb,SQ hb,Zo⟩,let⟨mc,h1,h2⟩:=U2; ⟨mc,SQ h1,h2⟩⟩;have e0:Cb P w K mg (xY eK.heap H) sD [] eK H:=⟨rfl,hM,fun b o e=>LL e,oj (Fp _ _),trivial,fun b hb=>absurd (show b∈([]:List ai)from hb) (by simp),fb, .of_eq hg⟩;refine om ((F _ WV (SQ PN)).run sD [] eK H ⟨[.ref a], []⟩ [.ref a] [.ref a] _ _ hr e0 (Q2 eK (.ref a)) (.cons rfl .nil) (BC H hO hS)) fun r s' h=> ?_;cases r with
  | error e=>exact(V1 H e s' h).elim
  | ok fl=>
   cases fl with
   | next=>exact gg h
   | brk=>exact gg h
   | cont=>exact gg h
   | ret u=>
    obtain⟨v,H',os,bare,un,V7,r',q⟩:=h;have q':v= .bl true:=q;subst q';obtain rfl:u=gf true:=r';refine⟨rfl,OldK.of_keep fun b o e=> ?_,os,bare⟩;cases q:H b with
    | none=>exact un.keep b o e q (by intro z; exact absurd (show b∈([]:List ai)from z) (by simp)) (by simp)
    | some u=>
     rcases hO b with z | ⟨ob,xs,z⟩
     ·rw [q]at z; cases z
     ·have z2:=un.ud b ob _ z;obtain⟨e1,_⟩:=fb b _ z;obtain⟨e2,_⟩:=V7 b _ z2;rw [e]at e1; cases e1;exact e2
 cases hk:K.lookup a with
 | some o=>
  have e:=KX a o hk;rw [ha]at e;cases e;refine core (fun _=>none) (fun _=> .inl rfl) (.inr ⟨_,vs.toArray,_,hk,rfl,rfl,rfl,by rw [aD,Vt]; exact hl,by simpa using rv⟩) (fun b u z=>by have z':(none:Option HO)=some u:=z; cases z') (fun b z=>absurd rfl z) fun z=>absurd rfl z
 | none=>
  refine core (fun b=>if b=a then some (.frz {cls:= .type "list",data:= .seq vs.toArray} (.lst (ns.map V.int)))else none) (fun b=> ?_) (.inl (.inr ⟨{cls:= .type "list",data:= .seq vs.toArray},if_pos rfl⟩)) (fun b u z=> ?_) (fun b z=> ?_) fun _=>hk
  ·by_cases hb:b=a
   ·exact .inr ⟨_,_,if_pos hb⟩
   ·exact .inl (if_neg hb)
  ·by_cases hb:b=a
   ·have z':=(if_pos hb).symm.trans z;cases z';subst hb;exact⟨ha,by rw [ae]; exact hl,vs,_,rv,ha⟩
   ·have z':=(if_neg hb).symm.trans z;cases z'
  ·by_cases hb:b=a
   ·exact hb
   ·exact absurd (if_neg hb) z
end L2
namespace L2
open PySem PySem.Spec PyProof.Rows
theorem LV{l:NL}{n k:Nat}{q:aH}{loose:List Str}{XP:(Str->Option af)->aY->Prop}{YP:aW->aY->Prop}{d:DefRec}{K:Params->aQ}{CX:aW->k_}{sp:aW->Sp}{x:Str}
  (hn:l.most=some n)(Eh:n<=sizeLine)(Rj:d.params.defaults= [])(hr:eW k sD)
  (hY: ∀(w:aW) (h:aY),YP w h->(K w.params).In h)
  (F: ∀(w:aW) (mg:Str->Option af) (fa:ai) (h:aY),(K w.params).In h->h.Ns cz mg->mg d.name=some (.ref fa)->
   ∃fd:bb,(∀(s:aj) (u:af),BindsTo s fd ⟨[u], []⟩ [(x,u)])/\
    ∀base:aY,(K w.params).In base->base.Ns cz mg->mZ l.prog w (K w.params) mg base (CX w) k fa fd [x] (sp w))
  (BC: ∀(w:aW) (H:Hp) (a:ai) (ns:List Int),ns.length<=n->Ot H->o6 (K w.params) H a (ns.map V.int)->sp w [.ref a] H (fun v _=>v= .bl true) fun _ _ _=>False)
  (V1: ∀(w:aW) (H:Hp) (s:aj) (e:af) (s':aj),CX w [] H s (fun _ _ _=>False) e s'->False):
  PySem.W.WalkO q loose XP YP l.row.toRowW d [] (fun f vs=>PySem.call f vs):=by
 refine Att.zX hn Rj fun w s₀ eK mg mb fa o pm cd doc a vs ns G Y ho hd kc MG A6 hints hlen hg=> ?_;have KX:=hY w _ Y;obtain⟨fd,hb,hF⟩:=F w mg fa _ KX G.T.g MG;exact Hn KX G.T.g G.T.b G.T.builtins G.T.nolimit hg A6 hints (bg hlen Eh) hr hF hb (fun H hO hS=>BC w H a ns hlen hO hS) fun H e s'=>V1 w H eK e s'
end L2
namespace L2
open PySem PySem.Spec PyProof.Rows
def inClass(s:cF)(j:Nat):cF:=match s with
 | .ClassDef _ _ _ body _ _ _ _ _ _ _=>body.getD j (.Pass ⟨0,0,0,0⟩)
 | _=> .Pass ⟨0,0,0,0⟩
def i7(s:cF):Arguments:=match s with
 | .FunctionDef _ a _ _ _ _ _ _ _ _=>a
 | _=>{posonlyargs:= [],args:= [],vararg:=none,kwonlyargs:= [],kw_defaults:= [],kwarg:=none,defaults:= []}
def bo(s:cF):List cF:=match s with
 | .FunctionDef _ _ b _ _ _ _ _ _ _=>b
 | _=> []
def aL(s:cF):iF:=match s with
 | .FunctionDef _ _ _ _ _ _ sc _ _ _=>sc
 | _=>{kind:= .function,names:= [],isGenerator:=false,isCoroutine:=false}
abbrev E0:XK:=fun _ _ _=>False
structure ji(K:aQ)(x qual:Str)(st:cF)(f:ai)(fd:bb):Prop where
 ex: ∃(oc:af) (od:Option ai) (kV doc pm:af) (an:Option ai) (dX ct:af) (vK:Array (Option af)),
  fd=eP x qual (i7 st) (bo st) (aL st) .none kV doc pm an dX ct/\K.lookup f=some ⟨oc,od, .func fd,vK⟩/\qa K dX qual=true
 kp:gz K (.ref f)=true
section
variable {P:aH}{w:aW}{K:aQ}{mg:Str->Option af}{base:aY}
theorem ji.binds{x qual:Str}{st:cF}{f:ai}{fd:bb}{ps:List Str}(F:ji K x qual st f fd)
  (h: ∀(kV doc pm:af) (an:Option ai) (dX ct:af) (us:List af),us.length=ps.length->sA (eP x qual (i7 st) (bo st) (aL st) .none kV doc pm an dX ct) ⟨us, []⟩=pure (ps.zip us)):Binds K fd ps []:=by
 obtain⟨oc,od,kV,doc,pm,an,dX,ct,vK,rfl,lk,kc⟩:=F.ex;exact .all (h kV doc pm an dX ct)
theorem IW{x qual:Str}{st:cF}{f:ai}{oc:af}{od an:Option ai}{vK:Array (Option af)}{kV doc pm dX ct:af}(l:K.lookup f=some ⟨oc,od, .func (eP x qual (i7 st) (bo st) (aL st) .none kV doc pm an dX ct),vK⟩)
  (c:qa K dX qual=true)(k:gz K (.ref f)=true):ji K x qual st f (eP x qual (i7 st) (bo st) (aL st) .none kV doc pm an dX ct):=⟨⟨oc,od,kV,doc,pm,an,dX,ct,vK,rfl,l,c⟩,k⟩
end
theorem uE{A B:Prop}(h:B):if false=true then A else B:=by
 rw [if_neg aG];exact h
theorem vU{A B:Prop}(h:A):if true=true then A else B:=by
 rw [if_pos rfl];exact h
def bQ(H H':Hp):Prop:= ∀b o,H b=some o->H' b=some o
theorem bQ.refl(H:Hp):bQ H H:=fun _ _ h=>h
theorem bQ.trans{H H1 H2:Hp}(a:bQ H H1)(b:bQ H1 H2):bQ H H2:=fun c o h=>b c o (a c o h)
theorem bQ.free{H H':Hp}(e:bQ H H'){l:ai}(h:H' l=Option.none):H l=Option.none:=by
 cases q:H l with
 | none=>rfl
 | some o=>
  rw [e l o q]at h;cases h
theorem bQ.seq{K:aQ}{H H':Hp}{a:ai}{xs:List V}(e:bQ H H')(h:o6 K H a xs):o6 K H' a xs:=by
 rcases h with(h | ⟨o,h⟩) | h
 ·exact .inl (.inl (e _ _ h))
 ·exact .inl (.inr ⟨o,e _ _ h⟩)
 ·exact .inr h
end L2
namespace Z
open PySem PySem.Spec PyProof.Rows L2
inductive D where
 | non | bl (b:Bool) | int (i:Int) | str (x:Str)
 | tup (xs:List D) | lst (xs:List D)
 | ins (C:ai) (ns:List Str) (vs:List D)
 | exc (C:ai)
 | dct (oo:Option Obj) (ks:List D) (ns:List Int)
abbrev St:=L2.St
abbrev MP:=ai->Prop
abbrev Frag:=aQ
def PB:MP:=fun _=>False
def Ma(K:Frag)(a:ai)(xs:List V):Prop:=
 ∃(o:Obj) (its:Array af) (n:Nat),K.lookup a=some o/\o.cls= .type "list"/\o.dict=none/\o.data= .seq its n/\its.size<=sizeLine/\Vals xs its.toList
def Ks(K:Frag)(M:MP)(H:Hp)(a:ai)(xs:List V):Prop:=(Rd H a (.lst xs)/\ ¬M a)\/Ma K a xs
def Tq(a C:ai):HO:= .ext fun h=> ∃o,h.get? a=some o/\o.cls= .ref C/\o.dict=none/\ ∃vs,o.data= .fields vs
mutual
def qx:D->Int
 | .int i=>hashInt i
 | .tup ds=>yZ (fN (jo ds))
 | _=>0
def jo:List D->List Int
 | []=> []
 | d::ds=>qx d::jo ds
end
def valN(n:Int)(t:Tok):af:=if n= -1 then .bool true else .int n t
theorem ux{n:Int}(h:n≠ -1)(t:Tok):valN n t= .int n t:=if_neg h
def oV:List (Int×ai×Int)->List eN->Prop
 | [], []=>True
 | x::xs,e::es=>(∃t,e=⟨x.1, .ref x.2.1,valN x.2.2 t⟩)/\oV xs es
 | _,_=>False
def jZ(a:ai)(o:Obj)(xs:List (Int×ai×Int)):HO:= .ext fun h=>(a==gI)=false/\ ∃es ep,h.get? a=some o/\o.ExactDict/\o.data= .dict es ep/\oV xs es.toList
def qD(ks:List D)(bs:List ai)(ns:List Int):List (Int×ai×Int):=(jo ks).zip (bs.zip ns)
mutual
def Dn(K:Frag)(M:MP)(H:Hp):D->V->Prop
 | .non,v=>v= .non
 | .bl b,v=>v= .bl b
 | .int i,v=>v= .int i
 | .str x,v=>v= .str x
 | .tup ds,v=> ∃a xs,v= .ref a/\k9 K H a xs/\cU K M H ds xs
 | .lst ds,v=> ∃a xs,v= .ref a/\Ks K M H a xs/\cU K M H ds xs
 | .ins C ns ds,v=> ∃a dx fs,v= .ref a/\H a=some (.ins C dx fs)/\fs.map (·.1)=ns/\cU K M H ds (fs.map (·.2))
 | .exc C,v=> ∃a,v= .ref a/\H a=some (Tq a C)
 | .dct oo ks ns,v=> ∃a bs,v= .ref a/\(∃o,(∀o',oo=some o'->o'=o)/\H a=some (jZ a o (qD ks bs ns)))/\bs.length=ks.length/\ns.length=ks.length/\cU K M H ks (bs.map V.ref)
def cU(K:Frag)(M:MP)(H:Hp):List D->List V->Prop
 | [],xs=>xs= []
 | d::ds,xs=> ∃v r,xs=v::r/\Dn K M H d v/\cU K M H ds r
end
def q8(M:MP)(H H':Hp):Prop:= ∀b o,H b=some o->(∀xs,o= .lst xs-> ¬M b)->H' b=some o
section
variable {K:Frag}{M M':MP}{H H':Hp}{a:ai}{xs:List V}
theorem yd(s:bQ H H'):q8 M H H':=fun b o e _=>s b o e
theorem q8.tup(k:q8 M H H')(h:k9 K H a xs):k9 K H' a xs:=by
 rcases h with(h | ⟨o,h⟩) | h
 ·exact .inl (.inl (k _ _ h (fun _ e=>nomatch e)))
 ·exact .inl (.inr ⟨o,k _ _ h (fun _ e=>nomatch e)⟩)
 ·exact .inr h
theorem q8.sqm(k:q8 M H H')(h:Ks K M H a xs):Ks K M H' a xs:=by
 rcases h with⟨h | ⟨o,h⟩,m⟩ | h
 ·exact .inl ⟨.inl (k _ _ h fun _ _=>m),m⟩
 ·exact .inl ⟨.inr ⟨o,k _ _ h (fun _ e=>nomatch e)⟩,m⟩
 ·exact .inr h
theorem Ks.l(h:Ks K M H a xs):o6 K H a xs:=by
 rcases h with⟨h,_⟩ | h
 ·exact .inl h
 ·exact .inr h
theorem Ks.re(hm: ∀a,M' a->M a\/H a=none)(h:Ks K M H a xs):Ks K M' H a xs:=by
 rcases h with⟨h,m⟩ | h
 ·refine .inl ⟨h,fun m'=> ?_⟩
  rcases hm _ m' with z | z
  ·exact m z
  ·rcases h with h | ⟨o,h⟩ <;> (rw [z]at h; cases h)
 ·exact .inr h
mutual
theorem Dn.keep(k:q8 M H H'): ∀{d:D} {v:V},Dn K M H d v->Dn K M H' d v
 | .non,_,x=>x
 | .bl _,_,x=>x
 | .int _,_,x=>x
 | .str _,_,x=>x
 | .tup ds,_,⟨a,xs,e,s,r⟩=>⟨a,xs,e,k.tup s,cU.keep k r⟩
 | .lst ds,_,⟨a,xs,e,s,r⟩=>⟨a,xs,e,k.sqm s,cU.keep k r⟩
 | .ins _ _ ds,_,⟨a,dx,fs,e,s,n,r⟩=>⟨a,dx,fs,e,k _ _ s (fun _ e=>nomatch e),n,cU.keep k r⟩
 | .exc _,_,⟨a,e,s⟩=>⟨a,e,k _ _ s (fun _ e=>nomatch e)⟩
 | .dct _ _ _,_,⟨a,bs,e,s,l1,l2,r⟩=>⟨a,bs,e,s.imp fun _ s=>⟨s.1,k _ _ s.2 (fun _ e=>nomatch e)⟩,l1,l2,cU.keep k r⟩
theorem cU.keep(k:q8 M H H'): ∀{ds:List D} {vs:List V},cU K M H ds vs->cU K M H' ds vs
 | [],_,x=>x
 | _::_,_,⟨v,r,e,p,q⟩=>⟨v,r,e,Dn.keep k p,cU.keep k q⟩
end
mutual
theorem Dn.re(hm: ∀a,M' a->M a\/H a=none): ∀{d:D} {v:V},Dn K M H d v->Dn K M' H d v
 | .non,_,x=>x
 | .bl _,_,x=>x
 | .int _,_,x=>x
 | .str _,_,x=>x
 | .tup ds,_,⟨a,xs,e,s,r⟩=>⟨a,xs,e,s,cU.re hm r⟩
 | .lst ds,_,⟨a,xs,e,s,r⟩=>⟨a,xs,e,s.re hm,cU.re hm r⟩
 | .ins _ _ ds,_,⟨a,dx,fs,e,s,n,r⟩=>⟨a,dx,fs,e,s,n,cU.re hm r⟩
 | .exc _,_,⟨a,e,s⟩=>⟨a,e,s⟩
 | .dct _ _ _,_,⟨a,bs,e,s,l1,l2,r⟩=>⟨a,bs,e,s,l1,l2,cU.re hm r⟩
theorem cU.re(hm: ∀a,M' a->M a\/H a=none): ∀{ds:List D} {vs:List V},cU K M H ds vs->cU K M' H ds vs
 | [],_,x=>x
 | _::_,_,⟨v,r,e,p,q⟩=>⟨v,r,e,Dn.re hm p,cU.re hm q⟩
end
theorem Dn.same(s:bQ H H'){d:D}{v:V}(h:Dn K M H d v):Dn K M H' d v:=h.keep (yd s)
theorem cU.same(s:bQ H H'){d:List D}{v:List V}(h:cU K M H d v):cU K M H' d v:=h.keep (yd s)
theorem Dn.less(hm: ∀a,M' a->M a){d:D}{v:V}(h:Dn K M H d v):Dn K M' H d v:=h.re fun a z=> .inl (hm a z)
theorem cU.less(hm: ∀a,M' a->M a){d:List D}{v:List V}(h:cU K M H d v):cU K M' H d v:=h.re fun a z=> .inl (hm a z)
theorem Dn.noM{d:D}{v:V}(h:Dn K M H d v):Dn K PB H d v:=h.less fun _ z=>z.elim
theorem cU.len: ∀{ds:List D} {vs:List V},cU K M H ds vs->vs.length=ds.length
 | [],_,x=>by rw [show _= []from x]; rfl
 | _::_,_,⟨v,r,e,p,q⟩=>by rw [e,aK,aK,cU.len q]
theorem cU.app: ∀{ds es:List D} {vs us:List V},cU K M H ds vs->cU K M H es us->cU K M H (ds ++ es) (vs ++ us)
 | [],_,_,_,x,y=>by rw [show _= []from x]; exact y
 | _::_,_,_,_,⟨v,r,e,p,q⟩,y=>by rw [e]; exact⟨v,_,rfl,p,cU.app q y⟩
theorem cU.one{d:D}{v:V}(h:Dn K M H d v):cU K M H [d] [v]:=⟨v, [],rfl,h,rfl⟩
theorem cU.get: ∀{ds:List D} {vs:List V},cU K M H ds vs-> ∀{i:Nat} {d:D},ds[i]? =some d-> ∃v,vs[i]? =some v/\Dn K M H d v
 | [],_,_,_,_,e=>by simp at e
 | _::_,_,⟨v,r,e,p,q⟩,0,d,h=>by simp at h; subst h; rw [e]; exact⟨v,rfl,p⟩
 | _::_,_,⟨v,r,e,p,q⟩,i+1,d,h=>by
  obtain⟨u,h1,h2⟩:=cU.get q (i:=i) (by simpa using h);rw [e]; exact⟨u,by simpa using h1,h2⟩
theorem cU.getV: ∀{ds:List D} {vs:List V},cU K M H ds vs-> ∀{i:Nat} {v:V},vs[i]? =some v-> ∃d,ds[i]? =some d/\Dn K M H d v
 | [],_,x,i,v,e=>by rw [show _= []from x]at e; simp at e
 | d::_,_,⟨u,r,e,p,q⟩,0,v,h=>by rw [e]at h; simp at h; subst h; exact⟨d,rfl,p⟩
 | _::_,_,⟨u,r,e,p,q⟩,i+1,v,h=>by
  rw [e]at h;obtain⟨d,h1,h2⟩:=cU.getV q (i:=i) (by simpa using h);exact⟨d,by simpa using h1,h2⟩
theorem cU.take: ∀{ds:List D} {vs:List V} (n:Nat),cU K M H ds vs->cU K M H (ds.take n) (vs.take n)
 | _,_,0,_=>rfl
 | [],_,_+1,x=>by rw [show _= []from x]; rfl
 | _::_,_,n+1,⟨v,r,e,p,q⟩=>by rw [e]; exact⟨v,_,rfl,p,cU.take n q⟩
theorem cU.drop: ∀{ds:List D} {vs:List V} (n:Nat),cU K M H ds vs->cU K M H (ds.drop n) (vs.drop n)
 | _,_,0,x=>x
 | [],_,_+1,x=>by rw [show _= []from x]; rfl
 | _::_,_,n+1,⟨v,r,e,p,q⟩=>by rw [e]; exact cU.drop n q
theorem cU.set{d:D}{v:V}(h:Dn K M H d v): ∀{ds:List D} {vs:List V} (n:Nat),cU K M H ds vs->cU K M H (ds.set n d) (vs.set n v)
 | [],_,_,x=>by rw [show _= []from x]; rfl
 | _::_,_,0,⟨u,r,e,p,q⟩=>by rw [e]; exact⟨v,_,rfl,h,q⟩
 | _::_,_,n+1,⟨u,r,e,p,q⟩=>by rw [e]; exact⟨u,_,rfl,p,cU.set h n q⟩
theorem cU.erase: ∀{ds:List D} {vs:List V} (n:Nat),cU K M H ds vs->cU K M H (ds.eraseIdx n) (vs.eraseIdx n)
 | [],_,_,x=>by rw [show _= []from x]; rfl
 | _::_,_,0,⟨u,r,e,p,q⟩=>by rw [e]; exact q
 | _::_,_,n+1,⟨u,r,e,p,q⟩=>by rw [e]; exact⟨u,_,rfl,p,cU.erase n q⟩
theorem cU.ints: ∀{ns:List Int} {vs:List V},cU K M H (ns.map .int) vs->vs=ns.map V.int
 | [],_,x=>x
 | n::ns,_,⟨u,r,e,p,q⟩=>by rw [e,cU.ints q,show u=V.int n from p]; rfl
theorem cU.of_ints: ∀(ns:List Int),cU K M H (ns.map .int) (ns.map V.int)
 | []=>rfl
 | n::ns=>⟨_,_,rfl,rfl,cU.of_ints ns⟩
end
def qF(K:Frag)(M:MP)(H:Hp):D->V->Prop
 | .lst ds,v=> ∃a xs,v= .ref a/\o6 K H a xs/\cU K M H ds xs
 | d,v=>Dn K M H d v
section
variable {K:Frag}{M M':MP}{H H':Hp}
theorem Dn.t{d:D}{v:V}(h:Dn K M H d v):qF K M H d v:=by
 cases d with
 | lst ds=>obtain⟨a,xs,e,s,r⟩:=h; exact⟨a,xs,e,s.l,r⟩
 | _=>exact h
theorem qF.same{d:D}{v:V}(s:bQ H H')(h:qF K M H d v):qF K M H' d v:=by
 cases d with
 | lst ds=>obtain⟨a,xs,e,q,r⟩:=h; exact⟨a,xs,e,s.seq q,r.same s⟩
 | _=>exact Dn.same s h
end
inductive Sl where
 | un | im (d:D) | mu (ds:List D)
abbrev fB:=List Sl
def MM(M0:MP)(ρ:fB)(α:Nat->ai):MP:=fun a=>M0 a\/ ∃(i:Nat) (ds:List D),ρ[i]? =some (.mu ds)/\α i=a
structure Rep(K:Frag)(M0:MP)(H0:Hp)(γ:List (D×V))(α:Nat->ai)(ρ:fB)(σ:St)(H:Hp):Prop where
 same:bQ H0 H
 old: ∀a,M0 a->H0 a≠none
 inj: ∀(i j:Nat) (ds es:List D),ρ[i]? =some (.mu ds)->ρ[j]? =some (.mu es)->α i=α j->i=j
 im: ∀(i:Nat) (d:D),ρ[i]? =some (.im d)-> ∃v,σ[i]? =some (some v)/\Dn K (MM M0 ρ α) H d v
 mu: ∀(i:Nat) (ds:List D),ρ[i]? =some (.mu ds)->H0 (α i)=none/\σ[i]? =some (some (.ref (α i)))/\ ∃xs,H (α i)=some (.lst xs)/\cU K (MM M0 ρ α) H ds xs
 gh: ∀p∈γ,Dn K (MM M0 ρ α) H p.1 p.2
 len:σ.length=ρ.length
section
variable {K:Frag}{M0:MP}{H0 H H' H1:Hp}{γ:List (D×V)}{α:Nat->ai}{ρ:fB}{σ:St}
theorem get_set{α:Type}{l:List α}{i j:Nat}{x y:α}(h:(l.set i x)[j]? =some y):(j=i/\y=x)\/(j≠i/\l[j]? =some y):=by
 rw [eZ]at h
 split at h
 ·rename_i e
  split at h
  ·exact .inl ⟨e.symm,(aF h).symm⟩
  ·cases h
 ·rename_i e;exact .inr ⟨fun z=>e z.symm,h⟩
theorem mz{α:Type}{l:List α}{i:Nat}{x:α}(h:i < l.length):(l.set i x)[i]? =some x:=by
 rw [eZ,if_pos rfl,if_pos h]
theorem eQ{α:Type}{l:List α}{i j:Nat}{x:α}(h:j≠i):(l.set i x)[j]? =l[j]? :=by
 rw [eZ,if_neg fun z=>h z.symm]
theorem l0{i:Nat}{s:Sl}(hs: ∀ds,s≠ .mu ds){a:ai}(h:MM M0 (ρ.set i s) α a):MM M0 ρ α a:=by
 rcases h with h | ⟨j,ds,e,z⟩
 ·exact .inl h
 ·rcases get_set e with⟨_,q⟩ | ⟨_,q⟩
  ·exact absurd q.symm (hs ds)
  ·exact .inr ⟨j,ds,q,z⟩
theorem Rep.next(r:Rep K M0 H0 γ α ρ σ H)(s:bQ H H'):Rep K M0 H0 γ α ρ σ H':=
 ⟨r.same.trans s,r.old,r.inj,fun i d e=>let⟨v,h1,h2⟩:=r.im i d e; ⟨v,h1,h2.same s⟩,
  fun i ds e=>let⟨h1,h2,xs,h3,h4⟩:=r.mu i ds e; ⟨h1,h2,xs,s _ _ h3,h4.same s⟩,fun p hp=>(r.gh p hp).same s,r.len⟩
theorem Rep.ghost{d:D}{v:V}(r:Rep K M0 H0 γ α ρ σ H)(h:Dn K (MM M0 ρ α) H d v):Rep K M0 H0 ((d,v)::γ) α ρ σ H:=
 ⟨r.same,r.old,r.inj,r.im,r.mu,fun p hp=>(aV.mp hp).elim (fun z=>by rw [z]; exact h) fun z=>r.gh p z,r.len⟩
theorem Rep.unghost{p:D×V}(r:Rep K M0 H0 (p::γ) α ρ σ H):Rep K M0 H0 γ α ρ σ H:=
 ⟨r.same,r.old,r.inj,r.im,r.mu,fun q hq=>r.gh q (c7 _ hq),r.len⟩
theorem Rep.set_im{i:Nat}{d:D}{v:V}(r:Rep K M0 H0 γ α ρ σ H)(hi:i < ρ.length)(h:Dn K (MM M0 ρ α) H d v):Rep K M0 H0 γ α (ρ.set i (.im d)) (σ.set i (some v)) H:=by
 have lm: ∀a,MM M0 (ρ.set i (.im d)) α a->MM M0 ρ α a:=fun a=>l0 (by intro _ e; cases e);refine⟨r.same,r.old,fun j k ds es e1 e2=> ?_,fun j e q=> ?_,fun j ds q=> ?_,fun p hp=>(r.gh p hp).less lm,by rw [bF,bF,r.len]⟩
 ·rcases get_set e1 with⟨_,z⟩ | ⟨_,z1⟩
  ·cases z
  ·rcases get_set e2 with⟨_,z⟩ | ⟨_,z2⟩
   ·cases z
   ·exact r.inj j k ds es z1 z2
 ·rcases get_set q with⟨rfl,z⟩ | ⟨n,z⟩
  ·cases z;exact⟨v,mz (by rw [r.len]; exact hi),h.less lm⟩
  ·obtain⟨u,h1,h2⟩:=r.im j e z;exact⟨u,by rw [eQ n]; exact h1,h2.less lm⟩
 ·rcases get_set q with⟨rfl,z⟩ | ⟨n,z⟩
  ·cases z
  ·obtain⟨h1,h2,xs,h3,h4⟩:=r.mu j ds z;exact⟨h1,by rw [eQ n]; exact h2,xs,h3,h4.less lm⟩
theorem Rep.forget{i:Nat}(r:Rep K M0 H0 γ α ρ σ H){ov:Option V}:Rep K M0 H0 γ α (ρ.set i .un) (σ.set i ov) H:=by
 have lm: ∀a,MM M0 (ρ.set i .un) α a->MM M0 ρ α a:=fun a=>l0 (by intro _ e; cases e);refine⟨r.same,r.old,fun j k ds es e1 e2=> ?_,fun j e q=> ?_,fun j ds q=> ?_,fun p hp=>(r.gh p hp).less lm,by rw [bF,bF,r.len]⟩
 ·rcases get_set e1 with⟨_,z⟩ | ⟨_,z1⟩
  ·cases z
  ·rcases get_set e2 with⟨_,z⟩ | ⟨_,z2⟩
   ·cases z
   ·exact r.inj j k ds es z1 z2
 ·rcases get_set q with⟨rfl,z⟩ | ⟨n,z⟩
  ·cases z
  ·obtain⟨u,h1,h2⟩:=r.im j e z;exact⟨u,by rw [eQ n]; exact h1,h2.less lm⟩
 ·rcases get_set q with⟨rfl,z⟩ | ⟨n,z⟩
  ·cases z
  ·obtain⟨h1,h2,xs,h3,h4⟩:=r.mu j ds z;exact⟨h1,by rw [eQ n]; exact h2,xs,h3,h4.less lm⟩
theorem Rep.drop1{i:Nat}(r:Rep K M0 H0 γ α ρ σ H):Rep K M0 H0 γ α (ρ.set i .un) σ H:=by
 have h:=r.forget (i:=i) (ov:=(σ[i]?).join);have e:σ.set i (σ[i]?).join=σ:=by
  apply e7;intro j;rw [eZ]
  split
  ·rename_i e;subst e
   split
   ·rename_i h;rw [ak h];rfl
   ·rename_i h;rw [bp (vB h)]
  ·rfl
 rwa [e]at h
def zx(α:Nat->ai)(i:Nat)(l:ai):Nat->ai:=fun j=>if j=i then l else α j
theorem lT{i:Nat}{l:ai}:zx α i l i=l:=if_pos rfl
theorem jO{i j:Nat}{l:ai}(h:j≠i):zx α i l j=α j:=if_neg h
theorem Rep.set_mu{i:Nat}{l:ai}{xs:List V}{ds:List D}(r:Rep K M0 H0 γ α ρ σ H1)(hi:i < ρ.length)(hl:H1 l=none)(s:bQ H1 H)(h:H l=some (.lst xs))
  (hd:cU K (fun a=>MM M0 ρ α a\/a=l) H ds xs):Rep K M0 H0 γ (zx α i l) (ρ.set i (.mu ds)) (σ.set i (some (.ref l))) H:=by
 have lm: ∀a,MM M0 (ρ.set i (.mu ds)) (zx α i l) a->MM M0 ρ α a\/a=l:=fun a z=>by
  rcases z with z | ⟨j,es,e,z⟩
  ·exact .inl (.inl z)
  ·rcases get_set e with⟨rfl,q⟩ | ⟨n,q⟩
   ·rw [lT]at z; exact .inr z.symm
   ·rw [jO n]at z; exact .inl (.inr ⟨j,es,q,z⟩)
 have UU: ∀a,MM M0 (ρ.set i (.mu ds)) (zx α i l) a->MM M0 ρ α a\/H1 a=none:=fun a z=>by
  rcases lm a z with z | rfl
  ·exact .inl z
  ·exact .inr hl
 refine⟨r.same.trans s,r.old,fun j k es fs e1 e2 ej=> ?_,fun j e q=> ?_,fun j es q=> ?_,fun p hp=>((r.gh p hp).re UU).same s,by rw [bF,bF,r.len]⟩
 ·have nl: ∀(k:Nat) (es:List D),ρ[k]? =some (Sl.mu es)->α k≠l:=fun k es z e=>by
   obtain⟨_,_,ys,h3,_⟩:=r.mu k es z;rw [e,hl]at h3; cases h3
  rcases get_set e1 with⟨rfl,z⟩ | ⟨n1,z1⟩
  ·rcases get_set e2 with⟨rfl,z⟩ | ⟨n2,z2⟩
   ·rfl
   ·rw [lT,jO n2]at ej; exact absurd ej.symm (nl k fs z2)
  ·rcases get_set e2 with⟨rfl,z⟩ | ⟨n2,z2⟩
   ·rw [lT,jO n1]at ej; exact absurd ej (nl j es z1)
   ·rw [jO n1,jO n2]at ej; exact r.inj j k es fs z1 z2 ej
 ·rcases get_set q with⟨rfl,z⟩ | ⟨n,z⟩
  ·cases z
  ·obtain⟨u,h1,h2⟩:=r.im j e z;exact⟨u,by rw [eQ n]; exact h1,(h2.re UU).same s⟩
 ·rcases get_set q with⟨rfl,z⟩ | ⟨n,z⟩
  ·cases z;exact⟨by rw [lT]; exact r.same.free hl,by rw [lT]; exact mz (by rw [r.len]; exact hi),xs,by rw [lT]; exact h,hd.less lm⟩
  ·obtain⟨h1,h2,ys,h3,h4⟩:=r.mu j es z;exact⟨by rw [jO n]; exact h1,by rw [eQ n,jO n]; exact h2,ys,by rw [jO n]; exact s _ _ h3,(h4.re UU).same s⟩
theorem fM{l:ai}{o:HO}(s:bQ H0 H)(h:H0 l=none):bQ H0 (upd H l o):=fun b u e=>by
 rw [b8 (gq e h)]; exact s b u e
theorem bJ{l:ai}{o:HO}(h:H l=none):bQ H (upd H l o):=fM (bQ.refl H) h
theorem Rep.upd_mu{i:Nat}{ds es:List D}{ys:List V}(r:Rep K M0 H0 γ α ρ σ H)(hi:ρ[i]? =some (.mu ds))(hd:cU K (MM M0 ρ α) H es ys):Rep K M0 H0 γ α (ρ.set i (.mu es)) σ (upd H (α i) (.lst ys)):=by
 obtain⟨a1,a2,xs,a3,a4⟩:=r.mu i ds hi;have fj:i < ρ.length:=(aB.mp hi).1;have me: ∀(j:Nat) (qS:List D),(ρ.set i (Sl.mu es))[j]? =some (Sl.mu qS)-> ∃fs,ρ[j]? =some (Sl.mu fs):=fun j qS e=>by
  rcases get_set e with⟨rfl,_⟩ | ⟨_,q⟩
  ·exact⟨ds,hi⟩
  ·exact⟨qS,q⟩
 have lm: ∀a,MM M0 (ρ.set i (.mu es)) α a->MM M0 ρ α a:=fun a z=>by
  rcases z with z | ⟨j,qS,e,z⟩
  ·exact .inl z
  ·obtain⟨fs,q⟩:=me j qS e;exact .inr ⟨j,fs,q,z⟩
 have kp:q8 (MM M0 ρ α) H (upd H (α i) (.lst ys)):=fun b o e n=>by
  by_cases hb:b=α i
  ·subst hb;rw [a3]at e; cases e;exact absurd (.inr ⟨i,ds,hi,rfl⟩) (n _ rfl)
  ·rw [b8 hb]; exact e
 refine⟨fM r.same a1,r.old,fun j k f1 f2 e1 e2=> ?_,fun j e q=> ?_,fun j f q=> ?_,fun p hp=>((r.gh p hp).keep kp).less lm,by rw [bF,r.len]⟩
 ·obtain⟨g1,z1⟩:=me j f1 e1;obtain⟨g2,z2⟩:=me k f2 e2;exact r.inj j k g1 g2 z1 z2
 ·rcases get_set q with⟨rfl,z⟩ | ⟨n,z⟩
  ·cases z
  ·obtain⟨u,h1,h2⟩:=r.im j e z;exact⟨u,h1,(h2.keep kp).less lm⟩
 ·rcases get_set q with⟨rfl,z⟩ | ⟨n,z⟩
  ·cases z;exact⟨a1,a2,ys,bI,(hd.keep kp).less lm⟩
  ·obtain⟨h1,h2,zs,h3,h4⟩:=r.mu j f z;refine⟨h1,h2,zs, ?_,(h4.keep kp).less lm⟩;rw [b8 fun e=>n (r.inj j i f ds z hi e)]; exact h3
theorem Rep.freeze{i:Nat}{ds:List D}(r:Rep K M0 H0 γ α ρ σ H)(hi:ρ[i]? =some (.mu ds)):Rep K M0 H0 γ α (ρ.set i (.im (.lst ds))) σ H:=by
 obtain⟨a1,a2,xs,a3,a4⟩:=r.mu i ds hi;have lm: ∀a,MM M0 (ρ.set i (.im (.lst ds))) α a->MM M0 ρ α a:=fun a=>l0 (by intro _ e; cases e);refine⟨r.same,r.old,fun j k d1 d2 e1 e2=> ?_,fun j e q=> ?_,fun j es q=> ?_,fun p hp=>(r.gh p hp).less lm,by rw [bF,r.len]⟩
 ·rcases get_set e1 with⟨_,z⟩ | ⟨_,z1⟩
  ·cases z
  ·rcases get_set e2 with⟨_,z⟩ | ⟨_,z2⟩
   ·cases z
   ·exact r.inj j k d1 d2 z1 z2
 ·rcases get_set q with⟨rfl,z⟩ | ⟨n,z⟩
  ·cases z;refine⟨_,a2,α j,xs,rfl, .inl ⟨.inl a3,fun m=> ?_⟩,a4.less lm⟩
   rcases m with m | ⟨k,es,e,m⟩
   ·exact r.old _ m a1
   ·rcases get_set e with⟨_,z⟩ | ⟨n,z⟩
    ·cases z
    ·exact n (r.inj k j es ds z hi m)
  ·obtain⟨u,h1,h2⟩:=r.im j e z;exact⟨u,h1,h2.less lm⟩
 ·rcases get_set q with⟨rfl,z⟩ | ⟨n,z⟩
  ·cases z
  ·obtain⟨h1,h2,ys,h3,h4⟩:=r.mu j es z;exact⟨h1,h2,ys,h3,h4.less lm⟩
end
section
variable {X:Cx}{e:Expr}{es:List Expr}{st:cF}{ny:List cF}{σ:St}{H:Hp}
def tE(X:Cx)(e:Expr):TE:=fun σ H Q=> ∀(pins:List (ai×Obj)) (s:aj),Inv X pins σ H s->av (aC X.prog X.w) X.A (bV e X.env) (EP X pins σ Q) X.xe s
def tT(X:Cx)(e:Expr):TT:=fun σ H Q=> ∀(pins:List (ai×Obj)) (s:aj),Inv X pins σ H s->av (aC X.prog X.w) X.A (isTrue e X.env (bV e X.env)) (TP X pins σ Q) X.xe s
def tW(X:Cx)(e:Expr):TT:=fun σ H Q=> ∀(whole:Sem af) (pins:List (ai×Obj)) (s:aj),Inv X pins σ H s->av (aC X.prog X.w) X.A (isTrue e X.env whole) (TP X pins σ Q) X.xe s
def tA(X:Cx)(es:List Expr):TA:=fun σ H Q=> ∀(pos:Pos) (pins:List (ai×Obj)) (s:aj),Inv X pins σ H s->av (aC X.prog X.w) X.A (spliced (fc pos (ax es X.env))) (AP X pins σ Q) X.xe s
def tS(X:Cx)(st:cF):TS:=fun D σ H=> ∀(pins:List (ai×Obj)) (s:aj),Inv X pins σ H s->av (aC X.prog X.w) X.A (exec st X.env) (SP X pins D) X.xe s
def mi(X:Cx)(st:List cF):TS:=fun D σ H=> ∀(pins:List (ai×Obj)) (s:aj),Inv X pins σ H s->av (aC X.prog X.w) X.A (execs st X.env) (SP X pins D) X.xe s
theorem iE:PE X e (tE X e):=fun pins s σ H Q I h=>h pins s I
theorem IC:PT X e (tT X e):=fun pins s σ H Q I h=>h pins s I
theorem Tw:PW X e (tW X e):=fun w pins s σ H Q I h=>h w pins s I
theorem xV:PA X es (tA X es):=fun p pins s σ H Q I h=>h p pins s I
theorem rV:PS X st (tS X st):=fun pins s σ H Q I h=>h pins s I
theorem gr:B8 X ny (mi X ny):=fun pins s σ H Q I h=>h pins s I
theorem _root_.L2.PE.to{t:TE}{Q:VK}(h:PE X e t)(q:t σ H Q):tE X e σ H Q:=fun pins s I=>h pins s σ H Q I q
theorem _root_.L2.PT.to{t:TT}{Q:Bool->Hp->Prop}(h:PT X e t)(q:t σ H Q):tT X e σ H Q:=fun pins s I=>h pins s σ H Q I q
theorem _root_.L2.PW.to{t:TT}{Q:Bool->Hp->Prop}(h:PW X e t)(q:t σ H Q):tW X e σ H Q:=fun w pins s I=>h w pins s σ H Q I q
theorem _root_.L2.PA.to{t:TA}{Q:List V->Hp->Prop}(h:PA X es t)(q:t σ H Q):tA X es σ H Q:=fun p pins s I=>h p pins s σ H Q I q
theorem _root_.L2.PS.to{t:TS}{D:Ends}(h:PS X st t)(q:t D σ H):tS X st D σ H:=fun pins s I=>h pins s σ H D I q
theorem _root_.L2.B8.to{t:TS}{D:Ends}(h:B8 X ny t)(q:t D σ H):mi X ny D σ H:=fun pins s I=>h pins s σ H D I q
end
def ar(X:Cx)(ρ:fB)(e:Expr)(d:D):Prop:= ∀(M0:MP) (H0:Hp) (γ:List (D×V)) (α:Nat->ai) (σ:St) (H:Hp) (Q:VK),Rep X.K M0 H0 γ α ρ σ H->
 (∀v H',bQ H H'->Dn X.K (MM M0 ρ α) H' d v->Q v H')->tE X e σ H Q
def kR(X:Cx)(ρ:fB)(e:Expr)(d:D):Prop:= ∀(M0:MP) (H0:Hp) (γ:List (D×V)) (α:Nat->ai) (σ:St) (H:Hp) (Q:VK),Rep X.K M0 H0 γ α ρ σ H->
 (∀v H',bQ H H'->qF X.K (MM M0 ρ α) H' d v->Q v H')->tE X e σ H Q
def dF(X:Cx)(ρ:fB)(e:Expr)(ds:List D):Prop:= ∀(M0:MP) (H0:Hp) (γ:List (D×V)) (α:Nat->ai) (σ:St) (H:Hp) (Q:VK),Rep X.K M0 H0 γ α ρ σ H->
 (∀l xs H1 H',bQ H H1->H1 l=none->bQ H1 H'->H' l=some (.lst xs)->cU X.K (fun a=>MM M0 ρ α a\/a=l) H' ds xs->Q (.ref l) H')->tE X e σ H Q
def cg(X:Cx)(ρ:fB)(e:Expr)(b:Bool):Prop:= ∀(M0:MP) (H0:Hp) (γ:List (D×V)) (α:Nat->ai) (σ:St) (H:Hp) (Q:Bool->Hp->Prop),Rep X.K M0 H0 γ α ρ σ H->
 (∀H',bQ H H'->Q b H')->tT X e σ H Q
def fk(X:Cx)(ρ:fB)(e:Expr)(b:Bool):Prop:= ∀(M0:MP) (H0:Hp) (γ:List (D×V)) (α:Nat->ai) (σ:St) (H:Hp) (Q:Bool->Hp->Prop),Rep X.K M0 H0 γ α ρ σ H->
 (∀H',bQ H H'->Q b H')->tW X e σ H Q
def aU(X:Cx)(ρ:fB)(es:List Expr)(ds:List D):Prop:= ∀(M0:MP) (H0:Hp) (γ:List (D×V)) (α:Nat->ai) (σ:St) (H:Hp) (Q:List V->Hp->Prop),Rep X.K M0 H0 γ α ρ σ H->
 (∀vs H',bQ H H'->cU X.K (MM M0 ρ α) H' ds vs->Q vs H')->tA X es σ H Q
def zy(K:Frag)(M:MP)(H:Hp):List D->List V->Prop
 | [],xs=>xs= []
 | d::ds,xs=> ∃v r,xs=v::r/\qF K M H d v/\zy K M H ds r
def vI(X:Cx)(ρ:fB)(es:List Expr)(ds:List D):Prop:= ∀(M0:MP) (H0:Hp) (γ:List (D×V)) (α:Nat->ai) (σ:St) (H:Hp) (Q:List V->Hp->Prop),Rep X.K M0 H0 γ α ρ σ H->
 (∀vs H',bQ H H'->zy X.K (MM M0 ρ α) H' ds vs->Q vs H')->tA X es σ H Q
section
variable {X:Cx}{ρ:fB}{e a b:Expr}{es:List Expr}{d:D}{ds:List D}{pos p:Pos}
theorem ar.r(h:ar X ρ e d):kR X ρ e d:=fun M0 H0 γ α σ H Q R k=>h M0 H0 γ α σ H Q R fun v H' s x=>k v H' s x.t
theorem dF.toD(h:dF X ρ e ds):ar X ρ e (.lst ds):=fun M0 H0 γ α σ H Q R k=>h M0 H0 γ α σ H Q R fun l xs H1 H' s n s' x y=>
 k _ H' (s.trans s') ⟨l,xs,rfl, .inl ⟨.inl x,fun m=>by
  rcases m with m | ⟨i,es,e,m⟩
  ·exact R.old _ m (R.same.free (s.free n))
  ·obtain⟨_,_,ys,h3,_⟩:=R.mu i es e;rw [m]at h3;have:=s _ _ h3;rw [n]at this; cases this⟩,y.less fun a m=> .inl m⟩
theorem ar.to{d':D}(h:ar X ρ e d)(q:d=d'):ar X ρ e d':=q▸h
theorem cg.to{c c':Bool}(h:cg X ρ e c)(q:c=c'):cg X ρ e c':=q▸h
theorem ar.int{i:Int}{j}:ar X ρ (.Constant (.int i) j pos) (.int i):=fun _ _ _ _ _ H _ _ k=>Jj.to (k _ H (bQ.refl _) rfl)
theorem ar.bl{i:Bool}{j}:ar X ρ (.Constant (.bool i) j pos) (.bl i):=fun _ _ _ _ _ H _ _ k=>QO.to (k _ H (bQ.refl _) rfl)
theorem ar.non{j}:ar X ρ (.Constant .none j pos) .non:=fun _ _ _ _ _ H _ _ k=>OH.to (k _ H (bQ.refl _) rfl)
theorem ar.str{x:Str}{j}:ar X ρ (.Constant (.str x) j pos) (.str x):=fun _ _ _ _ _ H _ _ k=>Oc.to (k _ H (bQ.refl _) rfl)
theorem ar.name{x:Str}(i:Nat)(hN:X.N[i]? =some x)(hv:yn X.env.scope x)(qT:ρ[i]? =some (.im d))(hd:(x==("__debug__":Str))=false:=by decide)(kc:(x==("__classdict__":Str))=false:=by decide):ar X ρ (.Name x pos) d:=
 fun _ _ _ _ _ H _ R k=>(lC hN hv hd kc).to (let⟨v,h1,h2⟩:=R.im i d qT; ⟨v,h1,k v H (bQ.refl _) h2⟩)
theorem kR.name{x:Str}(i:Nat)(hN:X.N[i]? =some x)(hv:yn X.env.scope x)(qT:ρ[i]? =some (.mu ds))(hd:(x==("__debug__":Str))=false:=by decide)(kc:(x==("__classdict__":Str))=false:=by decide):kR X ρ (.Name x pos) (.lst ds):=
 fun _ _ _ α _ H _ R k=>(lC hN hv hd kc).to (let⟨_,h1,xs,h3,h4⟩:=R.mu i ds qT; ⟨_,h1,k _ H (bQ.refl _) ⟨α i,xs,rfl,o6.of h3,h4⟩⟩)
theorem ar.glob{x:Str}{v:V}{u:af}(hg:Gl X x)(hm:X.mg x=some u)(r:RelV v u)(hn: ∀M H,Dn X.K M H d v)(hd:(x==("__debug__":Str))=false:=by decide):ar X ρ (.Name x pos) d:=
 fun _ _ _ _ _ H _ _ k=>(LG hg hm r hd).to (k _ H (bQ.refl _) (hn _ _))
theorem aU.nil:aU X ρ [] []:=fun _ _ _ _ _ H _ _ k=>hG.to (k _ H (bQ.refl _) rfl)
theorem aU.cons(h:ar X ρ e d)(t:aU X ρ es ds)(hs:ax (e::es) X.env=(false,bV e X.env)::ax es X.env:=by rfl):aU X ρ (e::es) (d::ds):=
 fun M0 H0 γ α σ H Q R k=>(e_ iE xV hs).to (h M0 H0 γ α σ H _ R fun v H1 s1 d1=>t M0 H0 γ α σ H1 _ (R.next s1) fun vs H2 s2 d2=>k _ H2 (s1.trans s2) ⟨v,vs,rfl,d1.same s2,d2⟩)
theorem vI.nil:vI X ρ [] []:=fun _ _ _ _ _ H _ _ k=>hG.to (k _ H (bQ.refl _) rfl)
theorem vI.cons(h:kR X ρ e d)(t:vI X ρ es ds)(hs:ax (e::es) X.env=(false,bV e X.env)::ax es X.env:=by rfl):vI X ρ (e::es) (d::ds):=
 fun M0 H0 γ α σ H Q R k=>(e_ iE xV hs).to (h M0 H0 γ α σ H _ R fun v H1 s1 d1=>t M0 H0 γ α σ H1 _ (R.next s1) fun vs H2 s2 d2=>k _ H2 (s1.trans s2) ⟨v,vs,rfl,d1.same s2,d2⟩)
theorem kr{n:Nat}(h:n<=1000000):n<=sizeLine:=bg h (by decide)
theorem ar.tup{x1}(h:aU X ρ es ds)(hl:ds.length<=1000000:=by exact Ep rfl):ar X ρ (.Tuple es x1 pos) (.tup ds):=
 fun M0 H0 γ α σ H Q R k=>(Jb xV).to (h M0 H0 γ α σ H _ R fun vs H1 s1 d1=>⟨by rw [d1.len]; exact kr hl,fun q hq=>
  k _ _ (s1.trans (bJ hq)) ⟨q,vs,rfl,k9.of bI,d1.same (bJ hq)⟩⟩)
theorem qo{K:Frag}{M:MP}{H:Hp}{l:ai}{ds:List D}{vs:List V}(hl:H l=none)(h:cU K M H ds vs):cU K (fun a=>M a\/a=l) H ds vs:=
 h.re fun a m=>m.elim .inl fun z=> .inr (by rw [z]; exact hl)
theorem dF.lst(h:aU X ρ es ds)(hl:ds.length<=1000000:=by exact Ep rfl):dF X ρ (.List es pos) ds:=
 fun M0 H0 γ α σ H Q R k=>(Ow xV).to (h M0 H0 γ α σ H _ R fun vs H1 s1 d1=>⟨by rw [d1.len]; exact kr hl,fun q hq=>
  k q vs H1 _ s1 hq (bJ hq) bI ((qo hq d1).same (bJ hq))⟩)
theorem ar.op2{op:Operator}{r:R2}{da db:D}(ho:oP X (ku op) r)(ha:kR X ρ a da)(hb:kR X ρ b db)
  (hr: ∀(M:MP) (H:Hp) (x y:V) (Q:VK),qF X.K M H da x->qF X.K M H db y->(∀v H',bQ H H'->Dn X.K M H' d v->Q v H')->r x y H Q):ar X ρ (.BinOp a op b pos) d:=
 fun M0 H0 γ α σ H Q R k=>(Jh ho iE iE).to (ha M0 H0 γ α σ H _ R fun v H1 s1 d1=>hb M0 H0 γ α σ H1 _ (R.next s1) fun u H2 s2 d2=>hr _ H2 v u Q (d1.same s2) d2 fun w' H3 s3 d3=>k w' H3 ((s1.trans s2).trans s3) d3)
theorem ar.add{i j:Int}(ha:ar X ρ a (.int i))(hb:ar X ρ b (.int j)):ar X ρ (.BinOp a .Add b pos) (.int (i+j)):=
 ar.op2 Om ha.r hb.r fun M H x y Q dx dy k=>⟨i,j,dx,dy,k _ H (bQ.refl _) rfl⟩
theorem ar.sub{i j:Int}(ha:ar X ρ a (.int i))(hb:ar X ρ b (.int j)):ar X ρ (.BinOp a .Sub b pos) (.int (i - j)):=
 ar.op2 OV ha.r hb.r fun M H x y Q dx dy k=>⟨i,j,dx,dy,k _ H (bQ.refl _) rfl⟩
theorem ar.mul{i j:Int}(ha:ar X ρ a (.int i))(hb:ar X ρ b (.int j))(hc:Mf i j):ar X ρ (.BinOp a .Mult b pos) (.int (i * j)):=
 ar.op2 NT ha.r hb.r fun M H x y Q dx dy k=>⟨i,j,dx,dy,hc,k _ H (bQ.refl _) rfl⟩
theorem ar.mod{i j:Int}(ha:ar X ρ a (.int i))(hb:ar X ρ b (.int j))(hc:0 < j):ar X ρ (.BinOp a .Mod b pos) (.int (i % j)):=
 ar.op2 OK ha.r hb.r fun M H x y Q dx dy k=>⟨i,j,dx,dy,hc,k _ H (bQ.refl _) rfl⟩
theorem ar.fdiv{i j:Int}(ha:ar X ρ a (.int i))(hb:ar X ρ b (.int j))(hc:Qv i j):ar X ρ (.BinOp a .FloorDiv b pos) (.int (i / j)):=
 ar.op2 Lw ha.r hb.r fun M H x y Q dx dy k=>⟨i,j,dx,dy,hc,k _ H (bQ.refl _) rfl⟩
theorem ar.cmp{op:p_}{r:R2}{da db:D}{c:Bool}(ho:oP X (cR op) r)(ha:kR X ρ a da)(hb:kR X ρ b db)(hm:fw op b=false)
  (hr: ∀(M:MP) (H:Hp) (x y:V) (Q:VK),qF X.K M H da x->qF X.K M H db y->Q (.bl c) H->r x y H Q):ar X ρ (.Compare a [op] [b] pos) (.bl c):=
 fun M0 H0 γ α σ H Q R k=>(Ln ho iE iE hm).to (ha M0 H0 γ α σ H _ R fun v H1 s1 d1=>hb M0 H0 γ α σ H1 _ (R.next s1) fun u H2 s2 d2=>hr _ H2 v u Q (d1.same s2) d2 (k _ H2 (s1.trans s2) rfl))
theorem cg.cmp{op:p_}{r:R2}{da db:D}{c:Bool}(ho:oP X (cR op) r)(ha:kR X ρ a da)(hb:kR X ρ b db)(hm:fw op b=false)
  (hr: ∀(M:MP) (H:Hp) (x y:V) (Q:VK),qF X.K M H da x->qF X.K M H db y->Q (.bl c) H->r x y H Q):cg X ρ (.Compare a [op] [b] pos) c:=
 fun M0 H0 γ α σ H Q R k=>(DL ho iE iE hm).to (ha M0 H0 γ α σ H _ R fun v H1 s1 d1=>hb M0 H0 γ α σ H1 _ (R.next s1) fun u H2 s2 d2=>hr _ H2 v u _ (d1.same s2) d2 ⟨c,rfl,k H2 (s1.trans s2)⟩)
inductive CI:p_->(Int->Int->Bool)->Prop where
 | lt:CI .Lt fun i j=>decide (i < j)
 | le:CI .LtE fun i j=>decide (i<=j)
 | gt:CI .Gt fun i j=>decide (j < i)
 | ge:CI .GtE fun i j=>decide (j<=i)
 | eq:CI .Eq fun i j=>decide (i=j)
 | ne:CI .NotEq fun i j=> !decide (i=j)
theorem Ab{i j:Int}:decide (V.int i=V.int j)=decide (i=j):=by
 by_cases h:i=j
 ·subst h; simp
 ·rw [decide_eq_false h,decide_eq_false fun q=>h (by injection q)]
theorem CI.op{op:p_}{g:Int->Int->Bool}(h:CI op g):oP X (cR op) (LS fun i j=> .bl (g i j)):=by
 cases h with
 | lt=>exact Qe
 | le=>exact QH
 | gt=>exact QG
 | ge=>exact QD
 | eq=>
  intro pins s σ H x y v u Q I rx ry ⟨i,j,ex,ey,q⟩;subst ex; subst ey;exact Il pins s σ H _ _ v u Q I rx ry ⟨rfl,by rw [Ab]; exact q⟩
 | ne=>
  intro pins s σ H x y v u Q I rx ry ⟨i,j,ex,ey,q⟩;subst ex; subst ey;exact MU pins s σ H _ _ v u Q I rx ry ⟨rfl,by rw [Ab]; exact q⟩
theorem CI.mark{op:p_}{g:Int->Int->Bool}(h:CI op g)(b:Expr):fw op b=false:=by cases h <;> exact nG b
theorem ar.cI{op:p_}{g:Int->Int->Bool}{i j:Int}(hc:CI op g)(ha:ar X ρ a (.int i))(hb:ar X ρ b (.int j)):ar X ρ (.Compare a [op] [b] pos) (.bl (g i j)):=
 ar.cmp hc.op ha.r hb.r (hc.mark b) fun M H x y Q dx dy k=>⟨i,j,dx,dy,k⟩
theorem cg.cI{op:p_}{g:Int->Int->Bool}{i j:Int}(hc:CI op g)(ha:ar X ρ a (.int i))(hb:ar X ρ b (.int j)):cg X ρ (.Compare a [op] [b] pos) (g i j):=
 cg.cmp hc.op ha.r hb.r (hc.mark b) fun M H x y Q dx dy k=>⟨i,j,dx,dy,k⟩
theorem ar.chain{op C0:p_}{g g':Int->Int->Bool}{c:Expr}{i j k:Int}(h1:CI op g)(h2:CI C0 g')(ha:ar X ρ a (.int i))(hb:ar X ρ b (.int j))(hc:ar X ρ c (.int k))
  (hm:lastMarks [op,C0] [b,c]=false:=by with_unfolding_all rfl):ar X ρ (.Compare a [op,C0] [b,c] pos) (.bl (g i j&&g' j k)):=
 fun M0 H0 γ α σ H Q R kk=>(IQ h1.op h2.op iE iE iE hm).to (ha M0 H0 γ α σ H _ R fun v H1 s1 d1=>hb M0 H0 γ α σ H1 _ (R.next s1) fun u H2 s2 d2=>⟨i,j,d1,d2,g i j,rfl,by
  cases e:g i j with
  | true=>exact vU (hc M0 H0 γ α σ H2 _ ((R.next s1).next s2) fun z H3 s3 d3=>⟨j,k,d2,d3,by have:=kk (.bl (g' j k)) H3 ((s1.trans s2).trans s3); rw [e]at this; exact this rfl⟩)
  | false=>exact uE (by have:=kk (.bl false) H2 (s1.trans s2); rw [e]at this; exact this rfl)⟩)
theorem cg.chain{op C0:p_}{g g':Int->Int->Bool}{c:Expr}{i j k:Int}(h1:CI op g)(h2:CI C0 g')(ha:ar X ρ a (.int i))(hb:ar X ρ b (.int j))(hc:ar X ρ c (.int k))
  (hm:lastMarks [op,C0] [b,c]=false:=by with_unfolding_all rfl):cg X ρ (.Compare a [op,C0] [b,c] pos) (g i j&&g' j k):=
 fun M0 H0 γ α σ H Q R kk=>(Jq h1.op h2.op iE iE iE hm).to (ha M0 H0 γ α σ H _ R fun v H1 s1 d1=>hb M0 H0 γ α σ H1 _ (R.next s1) fun u H2 s2 d2=>⟨i,j,d1,d2,g i j,rfl,by
  cases e:g i j with
  | true=>exact vU (hc M0 H0 γ α σ H2 _ ((R.next s1).next s2) fun z H3 s3 d3=>⟨j,k,d2,d3,_,rfl,by have:=kk H3 ((s1.trans s2).trans s3); rw [e]at this; exact this⟩)
  | false=>exact uE ⟨_,rfl,by have:=kk H2 (s1.trans s2); rw [e]at this; exact this⟩⟩)
theorem cg.val{c:Bool}(h:ar X ρ e (.bl c))(he: ∀whole,isTrue e X.env whole=(do let v<-whole; standAt e.pos; kX [v] (truthy v)):=by intro _; rfl):cg X ρ e c:=
 fun M0 H0 γ α σ H Q R k=>(OR iE he).to (h M0 H0 γ α σ H _ R fun v H1 s1 d1=>⟨c,d1,k H1 s1⟩)
theorem fk.t{c:Bool}(h:fk X ρ e c):cg X ρ e c:=fun M0 H0 γ α σ H Q R k=>Tw.pt.to (h M0 H0 γ α σ H Q R k)
theorem cg.not{c:Bool}(h:cg X ρ a c):cg X ρ (.UnaryOp .Not a pos) (!c):=
 fun M0 H0 γ α σ H Q R k=>(Ox IC).to (h M0 H0 γ α σ H _ R fun H1 s1=>k H1 s1)
theorem ar.not{c:Bool}(h:ar X ρ a (.bl c)):ar X ρ (.UnaryOp .Not a pos) (.bl (!c)):=
 fun M0 H0 γ α σ H Q R k=>(Ou iE).to (h M0 H0 γ α σ H _ R fun v H1 s1 d1=>⟨c,d1,k _ H1 s1 rfl⟩)
theorem fk.and1{c:Bool}(h:cg X ρ a c):fk X ρ (.BoolOp .And [a] pos) c:=fun M0 H0 γ α σ H Q R k=>(pw_and1 IC).to (h M0 H0 γ α σ H Q R k)
theorem fk.or1{c:Bool}(h:cg X ρ a c):fk X ρ (.BoolOp .Or [a] pos) c:=fun M0 H0 γ α σ H Q R k=>(pw_or1 IC).to (h M0 H0 γ α σ H Q R k)
theorem fk.and{c c':Bool}(h:cg X ρ a c)(h':c=true->fk X ρ (.BoolOp .And (b::es) pos) c'):fk X ρ (.BoolOp .And (a::b::es) pos) (c&&c'):=
 fun M0 H0 γ α σ H Q R k=>(pw_and IC Tw).to (h M0 H0 γ α σ H _ R fun H1 s1=>by
  cases e:c with
  | true=>rw [e]at k; exact vU (h' e M0 H0 γ α σ H1 _ (R.next s1) fun H2 s2=>k H2 (s1.trans s2))
  | false=>rw [e]at k; exact uE (k H1 s1))
theorem fk.or{c c':Bool}(h:cg X ρ a c)(h':c=false->fk X ρ (.BoolOp .Or (b::es) pos) c'):fk X ρ (.BoolOp .Or (a::b::es) pos) (c || c'):=
 fun M0 H0 γ α σ H Q R k=>(pw_or IC Tw).to (h M0 H0 γ α σ H _ R fun H1 s1=>by
  cases e:c with
  | false=>rw [e]at k; exact uE (h' e M0 H0 γ α σ H1 _ (R.next s1) fun H2 s2=>k H2 (s1.trans s2))
  | true=>rw [e]at k; exact vU (k H1 s1))
theorem ar.one{op}(h:ar X ρ a d):ar X ρ (.BoolOp op [a] pos) d:=fun M0 H0 γ α σ H Q R k=>(OL iE).to (h M0 H0 γ α σ H Q R k)
theorem ar.and{c c':Bool}(h:ar X ρ a (.bl c))(h':c=true->ar X ρ (.BoolOp .And (b::es) pos) (.bl c')):ar X ρ (.BoolOp .And (a::b::es) pos) (.bl (c&&c')):=
 fun M0 H0 γ α σ H Q R k=>(N4 iE iE).to (h M0 H0 γ α σ H _ R fun v H1 s1 d1=>⟨c,d1,by
  cases e:c with
  | true=>rw [e]at k; exact vU (h' e M0 H0 γ α σ H1 _ (R.next s1) fun u H2 s2 d2=>k u H2 (s1.trans s2) d2)
  | false=>rw [e]at k; exact uE (k _ H1 s1 rfl)⟩)
end
structure pJ where
 N:fB->Prop
 R:D->Prop
 B:fB->Prop:=fun _=>False
 C:fB->Prop:=fun _=>False
def ends(K:Frag)(M0:MP)(H0:Hp)(γ:List (D×V))(P:pJ):Ends where
 nx:=fun σ H=> ∃α ρ,Rep K M0 H0 γ α ρ σ H/\P.N ρ
 rt:=fun v H=> ∃d,P.R d/\bQ H0 H/\Dn K M0 H d v
 bk:=fun σ H=> ∃α ρ,Rep K M0 H0 γ α ρ σ H/\P.B ρ
 ct:=fun σ H=> ∃α ρ,Rep K M0 H0 γ α ρ σ H/\P.C ρ
def W1(X:Cx)(M0:MP)(H0:Hp)(st:cF)(ρ:fB)(P:pJ):Prop:= ∀(γ:List (D×V)) (α:Nat->ai) (σ:St) (H:Hp),Rep X.K M0 H0 γ α ρ σ H->tS X st (ends X.K M0 H0 γ P) σ H
def WS(X:Cx)(M0:MP)(H0:Hp)(st:List cF)(ρ:fB)(P:pJ):Prop:= ∀(γ:List (D×V)) (α:Nat->ai) (σ:St) (H:Hp),Rep X.K M0 H0 γ α ρ σ H->mi X st (ends X.K M0 H0 γ P) σ H
section
variable {X:Cx}{M0:MP}{H0:Hp}{st:cF}{ny:List cF}{ρ:fB}{P P':pJ}{e a b c:Expr}{d:D}{ds:List D}{pos pos':Pos}{En CQ:Ends}{σ:St}{H:Hp}
theorem SP.mono{pins:List (ai×Obj)}{f:Flow}{s:aj}(h1: ∀σ H,En.nx σ H->CQ.nx σ H)(h2: ∀v H,En.rt v H->CQ.rt v H)(h3: ∀σ H,En.bk σ H->CQ.bk σ H)(h4: ∀σ H,En.ct σ H->CQ.ct σ H)(h:SP X pins En f s):SP X pins CQ f s:=by
 cases f with
 | next=>obtain⟨σ,H,I,q⟩:=h; exact⟨σ,H,I,h1 _ _ q⟩
 | brk=>obtain⟨σ,H,I,q⟩:=h; exact⟨σ,H,I,h3 _ _ q⟩
 | cont=>obtain⟨σ,H,I,q⟩:=h; exact⟨σ,H,I,h4 _ _ q⟩
 | ret u=>obtain⟨v,σ,H,I,r,q⟩:=h; exact⟨v,σ,H,I,r,h2 _ _ q⟩
theorem tS.mono(h1: ∀σ H,En.nx σ H->CQ.nx σ H)(h2: ∀v H,En.rt v H->CQ.rt v H)(h3: ∀σ H,En.bk σ H->CQ.bk σ H)(h4: ∀σ H,En.ct σ H->CQ.ct σ H)(h:tS X st En σ H):tS X st CQ σ H:=
 fun pins s I=>fx (h pins s I) fun f s' q=>SP.mono h1 h2 h3 h4 q
theorem mi.mono(h1: ∀σ H,En.nx σ H->CQ.nx σ H)(h2: ∀v H,En.rt v H->CQ.rt v H)(h3: ∀σ H,En.bk σ H->CQ.bk σ H)(h4: ∀σ H,En.ct σ H->CQ.ct σ H)(h:mi X ny En σ H):mi X ny CQ σ H:=
 fun pins s I=>fx (h pins s I) fun f s' q=>SP.mono h1 h2 h3 h4 q
theorem WS.nil(h:P.N ρ):WS X M0 H0 [] ρ P:=fun γ α σ H R=>s9.to ⟨α,ρ,R,h⟩
theorem WS.cons(h:W1 X M0 H0 st ρ {P with N:=fun ma=>WS X M0 H0 ny ma P}):WS X M0 H0 (st::ny) ρ P:=fun γ α σ H R=>
 (dh rV gr).to (tS.mono (En:=ends X.K M0 H0 γ {P with N:=fun ma=>WS X M0 H0 ny ma P}) (fun fA H' ⟨α',ma,R',w⟩=>w γ α' fA H' R') (fun _ _ q=>q) (fun _ _ q=>q) (fun _ _ q=>q) (h γ α σ H R))
theorem WS.one(h:W1 X M0 H0 st ρ P):WS X M0 H0 [st] ρ P:=fun γ α σ H R=>(qv rV).to (h γ α σ H R)
theorem W1.imp(h:W1 X M0 H0 st ρ P)(h1: ∀ρ,P.N ρ->P'.N ρ)(h2: ∀d,P.R d->P'.R d)(h3: ∀ρ,P.B ρ->P'.B ρ)(h4: ∀ρ,P.C ρ->P'.C ρ):W1 X M0 H0 st ρ P':=fun γ α σ H R=>
 tS.mono (En:=ends X.K M0 H0 γ P) (fun _ _ ⟨α,ρ,R,q⟩=>⟨α,ρ,R,h1 _ q⟩) (fun _ _ ⟨d,q,r⟩=>⟨d,h2 _ q,r⟩) (fun _ _ ⟨α,ρ,R,q⟩=>⟨α,ρ,R,h3 _ q⟩) (fun _ _ ⟨α,ρ,R,q⟩=>⟨α,ρ,R,h4 _ q⟩) (h γ α σ H R)
theorem WS.freeze{i:Nat}(hi:ρ[i]? =some (.mu ds))(h:WS X M0 H0 ny (ρ.set i (.im (.lst ds))) P):WS X M0 H0 ny ρ P:=fun γ α σ H R=>h γ α σ H (R.freeze hi)
theorem W1.ret(h:ar X ρ e d)(q:P.R d):W1 X M0 H0 (.Return (some e) pos) ρ P:=fun γ α σ H R=>
 (Oy iE).to (h M0 H0 γ α σ H _ R fun v H' s x=>⟨d,q,R.same.trans s,x.less fun a m=> .inl m⟩)
theorem W1.expr(h:ar X ρ e d)(q:P.N ρ)(hs:cu e none pos.line X.env=pure false:=by rfl):W1 X M0 H0 (.Expr e pos) ρ P:=fun γ α σ H R=>
 (oQ iE hs).to (h M0 H0 γ α σ H _ R fun v H' s x=>⟨α,ρ,R.next s,q⟩)
theorem W1.ite{s1 s2:List cF}{t:Bool}(h:cg X ρ c t)(h1:t=true->WS X M0 H0 s1 ρ P)(h2:t=false->WS X M0 H0 s2 ρ P):W1 X M0 H0 (.If c s1 s2 pos) ρ P:=fun γ α σ H R=>
 (DS IC gr gr).to (h M0 H0 γ α σ H _ R fun H1 s=>by
  cases e:t with
  | true=>exact vU (h1 e γ α σ H1 (R.next s))
  | false=>exact uE (h2 e γ α σ H1 (R.next s)))
theorem W1.set{i:Nat}{x:Str}(hN:X.N.Nodup)(hi:X.N[i]? =some x)(hx:Loc X.env.scope x)(hl:i < ρ.length)(h:ar X ρ e d)(q:P.N (ρ.set i (.im d)))
  (hs:cu e (some (.Name x pos')) pos.line X.env=pure false:=by rfl)(hf:X.fn x=true\/X.env.scope.names.lookup x=some .local:=by first | exact .inl rfl | exact .inr rfl | assumption):W1 X M0 H0 (.Assign [.Name x pos'] e pos) ρ P:=fun γ α σ H R=>
 (nB hN hi hx iE hs hf).to (h M0 H0 γ α σ H _ R fun v H' s x=>⟨α,_,(R.next s).set_im hl x,q⟩)
theorem W1.setF{i:Nat}{x:Str}(hN:X.N.Nodup)(hi:X.N[i]? =some x)(hx:Loc X.env.scope x)(hl:i < ρ.length)(h:dF X ρ e ds)(q:P.N (ρ.set i (.mu ds)))
  (hs:cu e (some (.Name x pos')) pos.line X.env=pure false:=by rfl)(hf:X.fn x=true\/X.env.scope.names.lookup x=some .local:=by first | exact .inl rfl | exact .inr rfl | assumption):W1 X M0 H0 (.Assign [.Name x pos'] e pos) ρ P:=fun γ α σ H R=>
 (nB hN hi hx iE hs hf).to (h M0 H0 γ α σ H _ R fun l xs H1 H' s n s' y z=>⟨_,_,(R.next s).set_mu hl n s' y z,q⟩)
def tG(X:Cx)(tg:Expr):TG:=fun v σ H Q=> ∀(pins:List (ai×Obj)) (s:aj) (u:af),Inv X pins σ H s->RelV v u->av (aC X.prog X.w) X.A (lL tg X.env u) (fun _ s'=> ∃fA H',Inv X pins fA H' s'/\Q fA H') X.xe s
theorem V_{tg:Expr}:PG X tg (tG X tg):=fun pins s σ H v u Q I r h=>h pins s u I r
theorem _root_.L2.PG.to{tg:Expr}{t:TG}{v:V}{Q:St->Hp->Prop}(h:PG X tg t)(q:t v σ H Q):tG X tg v σ H Q:=fun pins s u I r=>h pins s σ H v u Q I r q
def sW(X:Cx)(tg:Expr)(d:D)(ρ ma:fB):Prop:= ∀(M0:MP) (H0:Hp) (γ:List (D×V)) (α:Nat->ai) (σ:St) (H:Hp) (v:V) (Q:St->Hp->Prop),Rep X.K M0 H0 γ α ρ σ H->Dn X.K (MM M0 ρ α) H d v->
 (∀fA,Rep X.K M0 H0 γ α ma fA H->Q fA H)->tG X tg v σ H Q
theorem sW.name{i:Nat}{x:Str}(hN:X.N.Nodup)(hi:X.N[i]? =some x)(hx:Loc X.env.scope x)(hl:i < ρ.length)
  (hf:X.fn x=true\/X.env.scope.names.lookup x=some .local:=by first | exact .inl rfl | exact .inr rfl | assumption):sW X (.Name x pos) d ρ (ρ.set i (.im d)):=fun M0 H0 γ α σ H v Q R h k=>
 (sL hN hi hx hf).to (k _ (R.set_im hl h))
theorem GF{body:List cF}{γ Gf:List (D×V)}{α:Nat->ai}{J:fB->Prop}(hg: ∀{α:Nat->ai} {ρ:fB} {σ:St} {H:Hp},Rep X.K M0 H0 Gf α ρ σ H->Rep X.K M0 H0 γ α ρ σ H)
  (R:Rep X.K M0 H0 Gf α ρ σ H)(w:WS X M0 H0 body ρ {P with N:=J,C:=J,B:=P.N}):
  mi X body {ends X.K M0 H0 γ P with nx:=fun σ H=> ∃α ρ,Rep X.K M0 H0 Gf α ρ σ H/\J ρ,ct:=fun σ H=> ∃α ρ,Rep X.K M0 H0 Gf α ρ σ H/\J ρ,bk:=(ends X.K M0 H0 γ P).nx} σ H:=
 mi.mono (En:=ends X.K M0 H0 Gf {P with N:=J,C:=J,B:=P.N}) (fun _ _ q=>q) (fun _ _ q=>q) (fun _ _ ⟨α,ρ,R,q⟩=>⟨α,ρ,hg R,q⟩) (fun _ _ q=>q) (w Gf α σ H R)
theorem W1.while{body:List cF}(I:fB->Prop)(μ:fB->Nat)(hp:vz (aC X.prog X.w) X.A X.env X.xe)(h0:I ρ)
  (ht: ∀ρ,I ρ-> ∃t,cg X ρ c t/\(t=true->WS X M0 H0 body ρ {P with N:=fun ma=>I ma/\μ ma < μ ρ,C:=fun ma=>I ma/\μ ma < μ ρ,B:=P.N})/\(t=false->P.N ρ)):W1 X M0 H0 (.While c body [] pos) ρ P:=fun γ α σ H R=>by
 refine(zq hp IC gr).to ⟨fun m σ H=> ∃α ρ,Rep X.K M0 H0 γ α ρ σ H/\I ρ/\μ ρ=m,⟨μ ρ,α,ρ,R,h0,rfl⟩, ?_⟩;rintro m KO H2 ⟨FG,ρ2,R2,i2,rfl⟩;obtain⟨t,h1,h2,h3⟩:=ht ρ2 i2;refine h1 M0 H0 γ FG KO H2 _ R2 fun H3 s=> ?_;cases e:t with
 | true=>
  refine vU ⟨fun σ H=> ∃α ρ,Rep X.K M0 H0 γ α ρ σ H/\(I ρ/\μ ρ < μ ρ2),fun fA H' ⟨α',ma,R',i',l'⟩=>⟨_,l',α',ma,R',i',rfl⟩, ?_⟩;exact GF (fun r=>r) (R2.next s) (h2 e)
 | false=>exact uE ⟨FG,ρ2,R2.next s,h3 e⟩
def N7(X:Cx)(o:Expr)(name:Str)(e:Expr)(apos p7:Pos):Prop:=kj o name X.env (bV o X.env)=bV o X.env/\
 ((fc p7 (ax [e] X.env)).all (fun x=> !x.1)&&(backToKw p7 (FQ [] X.env)).all (fun x=>x.1.isSome)&&decide ([e].length+([]:List Keyword).length+(if([]:List Keyword).isEmpty then 0 else 1) < 30))=true/\
 (apos.endLine==p7.line)=true/\ax [e] X.env= [(false,bV e X.env)]
theorem W1.mt1{i:Nat}{x name:Str}{id:String}{es:List D}{r:V->List V->Hp->VK->Prop}{p1 p2 p3:Pos}(pa:PlainAttrs "list")(sl:Slot "list" name id)(Vq:typeOf (.builtin id)=pure (.type "method_descriptor"))(hm:Sj X id r)
  (hi:X.N[i]? =some x)(hv:yn X.env.scope x)(qT:ρ[i]? =some (.mu ds))(h:ar X ρ e d)
  (hr: ∀(M:MP) (H:Hp) (l:ai) (xs:List V) (v:V) (Q:VK),H l=some (.lst xs)->cU X.K M H ds xs->Dn X.K M H d v->(∀u ys,cU X.K M H es ys->Q u (upd H l (.lst ys)))->r (.ref l) [v] H Q)(q:P.N (ρ.set i (.mu es)))
  (mc:N7 X (.Name x p1) name e p2 p3)(hd:(x==("__debug__":Str))=false:=by decide)(kc:(x==("__classdict__":Str))=false:=by decide)(CV:cu (.Call (.Attribute (.Name x p1) name p2) [e] [] p3) none pos.line X.env=pure false:=by rfl):
  W1 X M0 H0 (.Expr (.Call (.Attribute (.Name x p1) name p2) [e] [] p3) pos) ρ P:=fun γ α σ H R=>by
 obtain⟨m1,m2,m3,m4⟩:=mc;obtain⟨a1,a2,xs,a3,a4⟩:=R.mu i ds qT;refine(oQ (DF pa sl Vq hm (lC hi hv hd kc) xV m1 m2 m3 m4 rfl) CV).to ?_;refine⟨_,a2, .inl ⟨rfl,_,o6.of a3⟩,(aU.cons h aU.nil m4) M0 H0 γ α σ H _ R fun vs H1 s y=> ?_⟩;obtain⟨v,r,rfl,e1,e2⟩:=y;cases e2;exact hr _ H1 (α i) xs v _ (s _ _ a3) (a4.same s) e1 fun u ys hy=>⟨α,_,(R.next s).upd_mu qT hy,q⟩
theorem xG{n:Nat}(h:n < 1000000):n < sizeLine:=bB h (by decide)
theorem W1.append{i:Nat}{x:Str}{p1 p2 p3:Pos}(hi:X.N[i]? =some x)(hv:yn X.env.scope x)(qT:ρ[i]? =some (.mu ds))(h:ar X ρ e d)(hl:ds.length < 1000000)(q:P.N (ρ.set i (.mu (ds ++ [d]))))
  (mc:N7 X (.Name x p1) "append" e p2 p3)(hd:(x==("__debug__":Str))=false:=by decide)(kc:(x==("__classdict__":Str))=false:=by decide)(CV:cu (.Call (.Attribute (.Name x p1) "append" p2) [e] [] p3) none pos.line X.env=pure false:=by rfl):
  W1 X M0 H0 (.Expr (.Call (.Attribute (.Name x p1) "append" p2) [e] [] p3) pos) ρ P:=
 W1.mt1 jg Be Bf lW hi hv qT h (fun M H l xs v Q a b c k=>⟨l,xs,v,rfl,rfl,a,by rw [b.len]; exact xG hl,k _ _ (cU.app b (cU.one c))⟩) q mc hd kc CV
theorem HN(l b:ai)(xs ys:Array af)(n m:Nat)(dd:Option ai)(sl:Array (Option af))(h0: ¬(!xs.isEmpty&&iQ (xs.size+ys.size))=true)(h1:xs.size<=sizeLine)(h2:xs.size+ys.size<=sizeLine):
  Meets (dH.«list.extend» ⟨[.ref l, .ref b], []⟩) (fun _ R s=>s.heap.get? l=some {cls:= .type "list",data:= .seq xs n}/\s.heap.get? b=some {cls:= .type "list",dict:=dd,data:= .seq ys m,slots:=sl}/\
   R (.ok (.ret bD)) {s with heap:=s.heap.update l (dP fun x=>x ++ ys),toks:=s.toks}):=
 .of_wp fun prog w A R s h=>by
  obtain⟨hp,g,d,tk,os⟩:=s;obtain⟨hl,hb,h⟩:=h;have f2:=iP;have f3:=C6;have hz:(xs ++ ys).size<=sizeLine+1:=by rw [Array.size_append]; omega
  wp_walk using (NM hl rfl (hz:=h1) (_hz':=hz)),cC hl,cC hb
  exact⟨_,rfl,h⟩
theorem FA(l b:ai)(xs ys:Array af)(n m:Nat)(dd:Option ai)(sl:Array (Option af))(h0: ¬(!xs.isEmpty&&iQ (xs.size+ys.size))=true)(h1:xs.size<=sizeLine)(h2:xs.size+ys.size<=sizeLine):
  Meets (dH.«list.extend» ⟨[.ref l, .ref b], []⟩) (fun _ R s=>s.heap.get? l=some {cls:= .type "list",data:= .seq xs n}/\s.heap.get? b=some {cls:= .type "tuple",dict:=dd,data:= .seq ys m,slots:=sl}/\
   R (.ok (.ret bD)) {s with heap:=s.heap.update l (dP fun x=>x ++ ys),toks:=s.toks}):=
 .of_wp fun prog w A R s h=>by
  obtain⟨hp,g,d,tk,os⟩:=s;obtain⟨hl,hb,h⟩:=h;have f2:=iP;have f3:=C6;have hz:(xs ++ ys).size<=sizeLine+1:=by rw [Array.size_append]; omega
  wp_walk using (NM hl rfl (hz:=h1) (_hz':=hz)),cC hl,cC hb
  exact⟨_,rfl,h⟩
def QJ(K:Frag):V->List V->Hp->VK->Prop:=fun x vs H Q=> ∃l b xs zs,x= .ref l/\vs= [.ref b]/\H l=some (.lst xs)/\(o6 K H b zs\/k9 K H b zs)/\xs.length+zs.length<=sizeLine/\Q .non (upd H l (.lst (xs ++ zs)))
theorem Mh:Sj X "list.extend" (QJ X.K):=by
 intro pins s σ H x vs v us Q I rx rv h;obtain⟨l,b,xs,zs,rfl,rfl,hH,hB,hz,q⟩:=h;cases rx;obtain⟨u,rfl,ru⟩:=rv.one;cases ru;obtain⟨z,its,n,r,hl,e⟩:=I.lstM hH;have key: ∀iI:List af,Vals zs iI->its.toArray.size+iI.toArray.size<=sizeLine/\ ¬(!its.toArray.isEmpty&&iQ (its.toArray.size+iI.toArray.size))=true:=fun iI r2=>by
  have zb:=r2.length;have hsz:its.toArray.size+iI.toArray.size<=sizeLine:=by rw [aD,aD]; omega
  refine⟨hsz, ?_⟩;rw [GZ hsz,lM];exact aG
 have fin: ∀iI:List af,Vals zs iI->EP X pins σ Q bD {s with heap:=s.heap.update l (dP fun x=>x ++ iI.toArray),toks:=s.toks}:=fun iI r2=>
  ⟨.non,_,I.lset (its':=its ++ iI) hH e (by simp) (r.append r2) (by rw [aq]; exact hz),rfl,q⟩
 rcases hB with hB | hB
 ·obtain⟨iI,r2,⟨⟨oc,od,W2,vK⟩,n2,e2,ec,ed,NA⟩,z2⟩:=I.list hB;simp only at ec ed NA;subst ec ed NA;obtain⟨k1,k2⟩:=key iI r2;exact call_meets F.slot_list_extend ⟨_,e,rfl⟩ F.entry_list_extend (F.args_list_extend_2 _ _) (HN l b its.toArray iI.toArray n n2 none vK k2 (by rw [aD]; omega) k1) ⟨e,e2,fin iI r2⟩
 ·obtain⟨iI,r2,⟨⟨oc,od,W2,vK⟩,e2,ec,n2,NA⟩,z2⟩:=I.tuple hB;simp only at ec NA;subst ec NA;obtain⟨k1,k2⟩:=key iI r2;exact call_meets F.slot_list_extend ⟨_,e,rfl⟩ F.entry_list_extend (F.args_list_extend_2 _ _) (FA l b its.toArray iI.toArray n n2 od vK k2 (by rw [aD]; omega) k1) ⟨e,e2,fin iI r2⟩
end
section
variable {X:Cx}{M0:MP}{H0:Hp}{ρ:fB}{P:pJ}{e a b c:Expr}{es:List Expr}{d:D}{ds:List D}{pos p:Pos}
theorem cU.at{K:Frag}{M:MP}{H:Hp}{ds:List D}{vs:List V}{k:Int}{d:D}(h:cU K M H ds vs)(e:vY ds k=some d): ∃v,vY vs k=some v/\Dn K M H d v:=by
 obtain⟨j,h1,h2,h3,h4,h5⟩:=yJ e;obtain⟨v,q1,q2⟩:=h.get h2;refine⟨v, ?_,q2⟩;unfold vY at e ⊢;rw [h.len];cases z:Ji ds.length k with
 | none=>rw [z]at e; cases e
 | some j'=>
  obtain⟨w,_⟩:=tH z;rw [h1]at w; cases w;exact q1
theorem ar.ixL{k:Int}(ha:kR X ρ a (.lst ds))(hb:ar X ρ b (.int k))(hk:vY ds k=some d)(hs:qA b:=by intro _ _; rfl):ar X ρ (.Subscript a b pos) d:=
 fun M0 H0 γ α σ H Q R kk=>(Dt Ld iE iE hs).to (ha M0 H0 γ α σ H _ R fun v H1 s1 d1=>hb M0 H0 γ α σ H1 _ (R.next s1) fun u H2 s2 d2=>by
  obtain⟨q,xs,rfl,sq,dn⟩:=d1.same s2;obtain⟨w,e1,e2⟩:=dn.at hk;exact⟨q,xs,k,w,rfl,d2,sq,e1,kk w H2 (s1.trans s2) e2⟩)
theorem ar.ixT{k:Int}(ha:ar X ρ a (.tup ds))(hb:ar X ρ b (.int k))(hk:vY ds k=some d)(hs:qA b:=by intro _ _; rfl):ar X ρ (.Subscript a b pos) d:=
 fun M0 H0 γ α σ H Q R kk=>(Dt IV iE iE hs).to (ha M0 H0 γ α σ H _ R fun v H1 s1 d1=>hb M0 H0 γ α σ H1 _ (R.next s1) fun u H2 s2 d2=>by
  obtain⟨q,xs,rfl,sq,dn⟩:=d1.same s2;obtain⟨w,e1,e2⟩:=dn.at hk;exact⟨q,xs,k,w,rfl,d2,sq,e1,kk w H2 (s1.trans s2) e2⟩)
theorem ar.callB{id:String}{x:Str}{r:List V->Hp->VK->Prop}(hc:gW X (.builtin id) r)(hg:Gl X x)(hm:X.mg x=none)(hv:eA x=some (.builtin id))(ha:vI X ρ (e::es) ds)
  (hr: ∀(M:MP) (H:Hp) (vs:List V) (Q:VK),zy X.K M H ds vs->(∀v H',bQ H H'->Dn X.K M H' d v->Q v H')->r vs H Q)(hn:x≠"__name__":=by decide)(p9:(x==("__debug__":Str))=false:=by decide)
  (he:ax (e::es) X.env=(false,bV e X.env)::ax es X.env:=by rfl)(hpl:(fc pos (ax es X.env)).any (·.1)=false:=by rfl):ar X ρ (.Call (.Name x p) (e::es) [] pos) d:=
 fun M0 H0 γ α σ H Q R k=>(jU hc hg hm hv xV hn p9 he hpl).to (ha M0 H0 γ α σ H _ R fun vs H1 s1 d1=>hr _ H1 vs Q d1 fun v H2 s2 d2=>k v H2 (s1.trans s2) d2)
theorem ar.callTy{T:String}{x:Str}{r:List V->Hp->VK->Prop}(hc:gW X (.type T) r)(hg:Gl X x)(hm:X.mg x=none)(hv:eA x=some (.type T))(ha:vI X ρ (e::es) ds)
  (hr: ∀(M:MP) (H:Hp) (vs:List V) (Q:VK),zy X.K M H ds vs->(∀v H',bQ H H'->Dn X.K M H' d v->Q v H')->r vs H Q)(hn:x≠"__name__":=by decide)(p9:(x==("__debug__":Str))=false:=by decide)
  (he:ax (e::es) X.env=(false,bV e X.env)::ax es X.env:=by rfl)(hpl:(fc pos (ax es X.env)).any (·.1)=false:=by rfl):ar X ρ (.Call (.Name x p) (e::es) [] pos) d:=
 fun M0 H0 γ α σ H Q R k=>(jr hc hg hm hv xV hn p9 he hpl).to (ha M0 H0 γ α σ H _ R fun vs H1 s1 d1=>hr _ H1 vs Q d1 fun v H2 s2 d2=>k v H2 (s1.trans s2) d2)
theorem dF.callTy{T:String}{x:Str}{fs:List D}{r:List V->Hp->VK->Prop}(hc:gW X (.type T) r)(hg:Gl X x)(hm:X.mg x=none)(hv:eA x=some (.type T))(ha:vI X ρ (e::es) ds)
  (hr: ∀(M:MP) (H:Hp) (vs:List V) (Q:VK),zy X.K M H ds vs->(∀l xs H1 H',bQ H H1->H1 l=none->bQ H1 H'->H' l=some (.lst xs)->cU X.K (fun a=>M a\/a=l) H' fs xs->Q (.ref l) H')->r vs H Q)(hn:x≠"__name__":=by decide)(p9:(x==("__debug__":Str))=false:=by decide)
  (he:ax (e::es) X.env=(false,bV e X.env)::ax es X.env:=by rfl)(hpl:(fc pos (ax es X.env)).any (·.1)=false:=by rfl):dF X ρ (.Call (.Name x p) (e::es) [] pos) fs:=
 fun M0 H0 γ α σ H Q R k=>(jr hc hg hm hv xV hn p9 he hpl).to (ha M0 H0 γ α σ H _ R fun vs H1 s1 d1=>hr _ H1 vs Q d1 fun l xs H2 H3 s2 n s3 q dn=>k l xs H2 H3 (s1.trans s2) n s3 q dn)
theorem vI.one(h:kR X ρ e d)(hs:ax [e] X.env= [(false,bV e X.env)]:=by rfl):vI X ρ [e] [d]:=vI.cons h vI.nil hs
def wX:D->List D->Prop
 | .lst ds,es=>ds=es
 | .tup ds,es=>ds=es
 | _,_=>False
theorem xD{K:Frag}{M:MP}{H:Hp}{d:D}{ds:List D}{v:V}(hq:wX d ds)(h:qF K M H d v): ∃q xs,v= .ref q/\(o6 K H q xs\/k9 K H q xs)/\cU K M H ds xs:=by
 cases d with
 | lst es=>cases hq; obtain⟨q,xs,e,s,r⟩:=h; exact⟨q,xs,e, .inl s,r⟩
 | tup es=>cases hq; obtain⟨q,xs,e,s,r⟩:=h; exact⟨q,xs,e, .inr s,r⟩
 | _=>exact hq.elim
theorem ar.len(hg:Gl X "len")(hm:X.mg "len"=none)(h:kR X ρ e d)(hq:wX d ds)(he:ax [e] X.env= [(false,bV e X.env)]:=by rfl):ar X ρ (.Call (.Name "len" p) [e] [] pos) (.int ds.length):=
 ar.callB yc hg hm PySem.boot_len (vI.one h he) (fun M H vs Q dn k=>by
  obtain⟨v,r,rfl,e1,e2⟩:=dn;cases e2;obtain⟨q,xs,rfl,s,z⟩:=xD hq e1;exact⟨q,xs,rfl,s,k _ H (bQ.refl _) (by rw [z.len]; exact rfl)⟩) (he:=he)
theorem dF.list(hg:Gl X "list")(hm:X.mg "list"=none)(hv:eA "list"=some (.type "list"))(h:kR X ρ e d)(hq:wX d ds)(he:ax [e] X.env= [(false,bV e X.env)]:=by rfl):dF X ρ (.Call (.Name "list" p) [e] [] pos) ds:=
 dF.callTy xS hg hm hv (vI.one h he) (fun M H vs Q dn k=>by
  obtain⟨v,r,rfl,e1,e2⟩:=dn;cases e2;obtain⟨q,xs,rfl,s,z⟩:=xD hq e1;exact⟨q,xs,rfl,s,fun l hl=>k l xs H _ (bQ.refl _) hl (bJ hl) bI ((qo hl z).same (bJ hl))⟩) (he:=he)
theorem ar.tuple(hg:Gl X "tuple")(hm:X.mg "tuple"=none)(hv:eA "tuple"=some (.type "tuple"))(h:kR X ρ e d)(hq:wX d ds)(he:ax [e] X.env= [(false,bV e X.env)]:=by rfl):ar X ρ (.Call (.Name "tuple" p) [e] [] pos) (.tup ds):=
 ar.callTy vS hg hm hv (vI.one h he) (fun M H vs Q dn k=>by
  obtain⟨v,r,rfl,e1,e2⟩:=dn;cases e2;obtain⟨q,xs,rfl,s,z⟩:=xD hq e1;refine⟨q,xs,rfl, ?_⟩
  rcases s with s | s
  ·exact .inl ⟨s,fun l hl=>k _ _ (bJ hl) ⟨l,xs,rfl,k9.of bI,z.same (bJ hl)⟩⟩
  ·exact .inr ⟨s,k _ H (bQ.refl _) ⟨q,xs,rfl,s,z⟩⟩) (he:=he)
theorem ar.min(hc:X.calm=true)(hg:Gl X "min")(hm:X.mg "min"=none)(hv:eA "min"=some (.builtin "min")){i j:Int}(ha:ar X ρ a (.int i))(hb:ar X ρ b (.int j))
  (he:ax [a,b] X.env=(false,bV a X.env)::ax [b] X.env:=by rfl)(si:ax [b] X.env= [(false,bV b X.env)]:=by rfl)(hpl:(fc pos (ax [b] X.env)).any (·.1)=false:=by rfl):ar X ρ (.Call (.Name "min" p) [a,b] [] pos) (.int (if j < i then j else i)):=
 ar.callB (E9 hc) hg hm hv (vI.cons ha.r (vI.one hb.r si) he) (fun M H vs Q dn k=>by
  obtain⟨v,r,rfl,e1,v2,r2,rfl,e2,e3⟩:=dn;cases e1; cases e2; cases e3;exact⟨i,j,rfl,k _ H (bQ.refl _) rfl⟩) (he:=he) (hpl:=hpl)
mutual
def D.pd:D->PyData
 | .non=> .none
 | .bl b=> .bool b
 | .int i=> .int i
 | .str x=> .str x
 | .tup ds=> .tuple (D.pds ds)
 | .lst ds=> .list (D.pds ds)
 | .ins _ _ _=> .none
 | .exc _=> .none
 | .dct _ _ _=> .none
def D.pds:List D->List PyData
 | []=> []
 | d::ds=>D.pd d::D.pds ds
end
def D.flat:Nat->D->Prop
 | _, .non=>True
 | _, .bl _=>True
 | _, .int _=>True
 | _, .str x=>PyData.strOk x=true
 | n+1, .tup ds=> ∀d∈ds,D.flat n d
 | n+1, .lst ds=> ∀d∈ds,D.flat n d
 | _,_=>False
theorem iq{pins:List (ai×Obj)}{s:aj}{σ:St}{H:Hp}{M:MP}(I:Inv X pins σ H s): ∀(n:Nat),
  (∀(d:D) (v:V) (u:af),D.flat n d->qF X.K M H d v->RelV v u-> ∃as,Reads s.heap u d.pd as):=by
 intro n;have all: ∀m:Nat,(∀(d:D) (v:V) (u:af),D.flat m d->qF X.K M H d v->RelV v u-> ∃as,Reads s.heap u d.pd as)->
   ∀(ds:List D) (vs:List V) (us:List af),(∀d∈ds,D.flat m d)->cU X.K M H ds vs->Vals vs us-> ∃as,ReadsAll s.heap us (D.pds ds) as:=by
  intro m ih ds
  induction ds with
  | nil=>intro vs us _ h r; cases (show vs= []from h); cases r; exact⟨_, .nil⟩
  | cons d ds hi=>
   intro vs us hf h r;obtain⟨v,t,rfl,h1,h2⟩:=h;cases r with
   | cons r1 r2=>
    obtain⟨as,q1⟩:=ih d v _ (hf d (.head _)) h1.t r1;obtain⟨bs,q2⟩:=hi t _ (fun x hx=>hf x (.tail _ hx)) h2 r2;exact⟨_, .cons q1 q2⟩
 have base: ∀(m:Nat) (d:D) (v:V) (u:af),(∀ds,d≠ .tup ds)->(∀ds,d≠ .lst ds)->D.flat m d->qF X.K M H d v->RelV v u-> ∃as,Reads s.heap u d.pd as:=by
  intro m d v u n1 n2 hf h r;cases d with
  | non=>cases (show v= .non from h); cases (show u=bD from r); exact⟨_, .none⟩
  | bl b=>cases (show v= .bl b from h); cases (show u=gf b from r); exact⟨_, .bool b⟩
  | int i=>cases (show v= .int i from h); obtain⟨t,rfl⟩:=r; exact⟨_, .int i t⟩
  | str x=>cases (show v= .str x from h); obtain⟨t,rfl⟩:=r; exact⟨_, .str x t⟩
  | tup ds=>exact absurd rfl (n1 ds)
  | lst ds=>exact absurd rfl (n2 ds)
  | ins _ _ _=>cases m <;> exact hf.elim
  | exc _=>cases m <;> exact hf.elim
  | dct _ _ _=>cases m <;> exact hf.elim
 induction n with
 | zero=>
  intro d v u hf h r;refine base 0 d v u (fun ds e=> ?_) (fun ds e=> ?_) hf h r <;> (subst e; exact hf.elim)
 | succ n ih=>
  intro d v u hf h r;cases d with
  | tup ds=>
   obtain⟨a,xs,rfl,sq,dn⟩:=h;cases (show u=au a from r);obtain⟨its,rv,⟨o,e1,e2,m,e3⟩,_⟩:=I.tuple sq;obtain⟨as,q⟩:=all n ih ds xs its hf dn rv;exact⟨_, .tuple e1 e2 e3 (by simpa [D.pds]using q)⟩
  | lst ds=>
   obtain⟨a,xs,rfl,sq,dn⟩:=h;cases (show u=au a from r);obtain⟨its,rv,⟨o,m,e1,e2,_,e3⟩,_⟩:=I.list sq;obtain⟨as,q⟩:=all n ih ds xs its hf dn rv;exact⟨_, .list e1 e2 e3 (by simpa [D.pds]using q)⟩
  | _=>exact base (n+1) _ v u (fun ds e=>nomatch e) (fun ds e=>nomatch e) hf h r
theorem iK: ∀(n:Nat) (d:D),D.flat n d->d.pd.canLay0=true/\d.pd.depth<=n:=by
 have all: ∀m:Nat,(∀d:D,D.flat m d->d.pd.canLay0=true/\d.pd.depth<=m)-> ∀ds:List D,(∀d∈ds,D.flat m d)->e9 (D.pds ds)=true/\c_ (D.pds ds)<=m:=by
  intro m ih ds
  induction ds with
  | nil=>intro _; exact⟨by simp [D.pds,e9],by simp [D.pds,c_]⟩
  | cons d ds hi=>
   intro hf;obtain⟨a1,a2⟩:=ih d (hf d (.head _));obtain⟨b1,b2⟩:=hi fun x hx=>hf x (.tail _ hx);exact⟨by simp [D.pds,e9,a1,b1],by simp only [D.pds,c_]; omega⟩
 intro n
 induction n with
 | zero=>intro d hf; cases d <;> simp_all [D.flat,D.pd,jz,kZ]
 | succ n ih=>
  intro d hf;cases d with
  | tup ds=>obtain⟨b1,b2⟩:=all n ih ds hf; exact⟨by simpa [D.pd,jz]using b1,by simp only [D.pd,kZ]; omega⟩
  | lst ds=>obtain⟨b1,b2⟩:=all n ih ds hf; exact⟨by simpa [D.pd,jz]using b1,by simp only [D.pd,kZ]; omega⟩
  | _=>simp_all [D.flat,D.pd,jz,kZ]
theorem ll{d:D}(h:D.flat 60 d):SeqAt.shaped d.pd=true:=by
 obtain⟨a,b⟩:=iK 60 d h;unfold SeqAt.shaped;rw [a,iR];exact decide_eq_true (by omega)
def D.eqv(a b:D):Bool:=hW a.pd b.pd
def QN(K:Frag)(neg:Bool):R2:=fun x y H Q=> ∃M da db,qF K M H da x/\qF K M H db y/\D.flat 60 da/\D.flat 60 db/\Q (.bl (if neg then !D.eqv da db else D.eqv da db)) H
theorem Ht(hu:X.A.units+64 < cLine):oP X (cR .Eq) (QN X.K false):=by
 intro pins s σ H x y v u Q I rx ry ⟨M,da,db,h1,h2,f1,f2,q⟩;obtain⟨as,r1⟩:=iq I 60 da x v f1 h1 rx;obtain⟨bs,r2⟩:=iq I 60 db y u f2 h2 ry;exact eq_dataH r1 r2 (ll f1) (ll f2) hu ⟨.bl _,H,I,rfl,q⟩
theorem OD(hu:X.A.units+64 < cLine):oP X (cR .NotEq) (QN X.K true):=by
 intro pins s σ H x y v u Q I rx ry ⟨M,da,db,h1,h2,f1,f2,q⟩;obtain⟨as,r1⟩:=iq I 60 da x v f1 h1 rx;obtain⟨bs,r2⟩:=iq I 60 db y u f2 h2 ry;exact ne_dataH r1 r2 (ll f1) (ll f2) hu ⟨.bl _,H,I,rfl,q⟩
theorem ar.eq{da db:D}(hu:X.A.units+64 < cLine)(ha:kR X ρ a da)(hb:kR X ρ b db)(f1:D.flat 60 da)(f2:D.flat 60 db):ar X ρ (.Compare a [.Eq] [b] pos) (.bl (D.eqv da db)):=
 ar.cmp (Ht hu) ha hb (nG b) fun M H x y Q dx dy k=>⟨M,da,db,dx,dy,f1,f2,k⟩
theorem cg.eq{da db:D}(hu:X.A.units+64 < cLine)(ha:kR X ρ a da)(hb:kR X ρ b db)(f1:D.flat 60 da)(f2:D.flat 60 db):cg X ρ (.Compare a [.Eq] [b] pos) (D.eqv da db):=
 cg.cmp (Ht hu) ha hb (nG b) fun M H x y Q dx dy k=>⟨M,da,db,dx,dy,f1,f2,k⟩
theorem cg.ne{da db:D}(hu:X.A.units+64 < cLine)(ha:kR X ρ a da)(hb:kR X ρ b db)(f1:D.flat 60 da)(f2:D.flat 60 db):cg X ρ (.Compare a [.NotEq] [b] pos) (!D.eqv da db):=
 cg.cmp (OD hu) ha hb (nG b) fun M H x y Q dx dy k=>⟨M,da,db,dx,dy,f1,f2,k⟩
def inD(d:D)(ds:List D):Bool:=ds.any fun y=>D.eqv y d
def Qp(K:Frag)(neg:Bool):R2:=fun x y H Q=> ∃M da ds,qF K M H da x/\(qF K M H (.lst ds) y\/qF K M H (.tup ds) y)/\D.flat 60 da/\(∀d∈ds,D.flat 59 d)/\Q (.bl (if neg then !inD da ds else inD da ds)) H
theorem qC(d:D): ∀ds:List D,(D.pds ds).any (fun y=>hW y d.pd)=inD d ds
 | []=>rfl
 | y::ds=>by
  show(hW y.pd d.pd || (D.pds ds).any _)=(D.eqv y d || inD d ds);rw [qC d ds];rfl
theorem Ja(hu:X.A.units+65 < cLine):oP X (cR .In) (Qp X.K false):=by
 intro pins s σ H x y v u Q I rx ry ⟨M,da,ds,h1,h2,f1,f2,q⟩;obtain⟨as,r1⟩:=iq I 60 da x v f1 h1 rx;obtain⟨c1,c2⟩:=iK 60 da f1
 rcases h2 with h2 | h2
 ·obtain⟨bs,r2⟩:=iq I 60 (.lst ds) y u f2 h2 ry;obtain⟨e1,e2⟩:=iK 60 (.lst ds) f2;exact SeqAt.in_list_reads r2 r1 e1 c1 (by have:=kf (c_ (D.pds ds)) da.pd.depth; omega) (by rw [qC]; exact⟨.bl _,H,I,rfl,q⟩)
 ·obtain⟨bs,r2⟩:=iq I 60 (.tup ds) y u f2 h2 ry;obtain⟨e1,e2⟩:=iK 60 (.tup ds) f2;exact SeqAt.in_tuple_reads r2 r1 e1 c1 (by have:=kf (c_ (D.pds ds)) da.pd.depth; omega) (by rw [qC]; exact⟨.bl _,H,I,rfl,q⟩)
theorem Ew(hu:X.A.units+65 < cLine):oP X (cR .NotIn) (Qp X.K true):=by
 intro pins s σ H x y v u Q I rx ry ⟨M,da,ds,h1,h2,f1,f2,q⟩;obtain⟨as,r1⟩:=iq I 60 da x v f1 h1 rx;obtain⟨c1,c2⟩:=iK 60 da f1
 rcases h2 with h2 | h2
 ·obtain⟨bs,r2⟩:=iq I 60 (.lst ds) y u f2 h2 ry;obtain⟨e1,e2⟩:=iK 60 (.lst ds) f2;exact SeqAt.notIn_list_reads r2 r1 e1 c1 (by have:=kf (c_ (D.pds ds)) da.pd.depth; omega) (by rw [qC]; exact⟨.bl _,H,I,rfl,q⟩)
 ·obtain⟨bs,r2⟩:=iq I 60 (.tup ds) y u f2 h2 ry;obtain⟨e1,e2⟩:=iK 60 (.tup ds) f2;exact SeqAt.notIn_tuple_reads r2 r1 e1 c1 (by have:=kf (c_ (D.pds ds)) da.pd.depth; omega) (by rw [qC]; exact⟨.bl _,H,I,rfl,q⟩)
theorem ar.inL{da:D}(hu:X.A.units+65 < cLine)(ha:kR X ρ a da)(hb:kR X ρ b (.lst ds))(f1:D.flat 60 da)(f2: ∀d∈ds,D.flat 59 d)(hm:fw .In b=false:=by with_unfolding_all rfl):ar X ρ (.Compare a [.In] [b] pos) (.bl (inD da ds)):=
 ar.cmp (Ja hu) ha hb hm fun M H x y Q dx dy k=>⟨M,da,ds,dx, .inl dy,f1,f2,k⟩
theorem cg.inL{da:D}(hu:X.A.units+65 < cLine)(ha:kR X ρ a da)(hb:kR X ρ b (.lst ds))(f1:D.flat 60 da)(f2: ∀d∈ds,D.flat 59 d)(hm:fw .In b=false:=by with_unfolding_all rfl):cg X ρ (.Compare a [.In] [b] pos) (inD da ds):=
 cg.cmp (Ja hu) ha hb hm fun M H x y Q dx dy k=>⟨M,da,ds,dx, .inl dy,f1,f2,k⟩
theorem cg.notInL{da:D}(hu:X.A.units+65 < cLine)(ha:kR X ρ a da)(hb:kR X ρ b (.lst ds))(f1:D.flat 60 da)(f2: ∀d∈ds,D.flat 59 d)(hm:fw .NotIn b=false:=by with_unfolding_all rfl):cg X ρ (.Compare a [.NotIn] [b] pos) (!inD da ds):=
 cg.cmp (Ew hu) ha hb hm fun M H x y Q dx dy k=>⟨M,da,ds,dx, .inl dy,f1,f2,k⟩
def D.isNon:D->Bool
 | .non=>true
 | _=>false
theorem Jr{K:Frag}{M:MP}{H:Hp}{d:D}{v:V}(h:qF K M H d v):decide (v= .non)=d.isNon:=by
 cases d with
 | non=>cases (show v= .non from h); rfl
 | bl b=>cases (show v= .bl b from h); rfl
 | int b=>cases (show v= .int b from h); rfl
 | str b=>cases (show v= .str b from h); rfl
 | tup ds=>obtain⟨a,_,rfl,_⟩:=h; rfl
 | lst ds=>obtain⟨a,_,rfl,_⟩:=h; rfl
 | ins _ _ _=>obtain⟨a,_,_,rfl,_⟩:=h; rfl
 | exc _=>obtain⟨a,rfl,_⟩:=h; rfl
 | dct _ _ _=>obtain⟨a,_,rfl,_⟩:=h; rfl
theorem cg.notN{da:D}{j p'}(ha:kR X ρ a da):cg X ρ (.Compare a [.IsNot] [.Constant .none j p'] pos) (!da.isNon):=
 cg.cmp LU ha ar.non.r (nG _) fun M H x y Q dx dy k=>⟨dy,by rw [Jr dx]; exact k⟩
def QL(K:Frag):R2:=fun x y H Q=> ∃l b xs zs,x= .ref l/\y= .ref b/\o6 K H l xs/\o6 K H b zs/\xs.length+zs.length<=sizeLine/\ ∀p,H p=none->Q (.ref p) (upd H p (.lst (xs ++ zs)))
theorem Ff(l b:ai)(xs ys:Array af)(n m:Nat)(dd de:Option ai)(sl tl:Array (Option af))(h0:xs.size+ys.size<=sizeLine):
  Meets (dH.«list.__add__» ⟨[.ref l, .ref b], []⟩) (fun _ R s=>s.heap.get? l=some {cls:= .type "list",dict:=dd,data:= .seq xs n,slots:=sl}/\s.heap.get? b=some {cls:= .type "list",dict:=de,data:= .seq ys m,slots:=tl}/\
   R (.ok (.ret (au s.heap.objs.size))) {s with heap:=s.heap.push {cls:=cK "list",data:=yY (xs ++ ys)},toks:=s.toks}):=
 .of_wp fun prog w A R s h=>by
  obtain⟨hp,g,d,tk,os⟩:=s;obtain⟨hl,hb,h⟩:=h;have f3:=C6
  wp_walk using cC hl,cC hb
  exact⟨_,rfl,h⟩
end
def Walk(K:Frag)(J:It)(ds:List D)(gs:List (D×V)):Prop:= ∀(M:MP) (H:Hp),(∀p∈gs,Dn K M H p.1 p.2)->
 (∀i d,ds[i]? =some d->J.go i H/\ ∀x H',J.TB i H x H'->bQ H H'/\Dn K M H' d x)/\J.stop ds.length H
def tI(X:Cx)(tg iter:Expr):TI:=fun σ H R=> ∀(pins:List (ai×Obj)) (s:aj),Inv X pins σ H s->
 av (aC X.prog X.w) X.A (bV iter X.env) (fun v s1=>av (aC X.prog X.w) X.A (vA v) (TZ X pins σ tg R) X.xe s1) X.xe s
def iU(X:Cx)(ρ:fB)(tg iter:Expr)(ds:List D):Prop:= ∀(M0:MP) (H0:Hp) (γ:List (D×V)) (α:Nat->ai) (σ:St) (H:Hp) (R:It->Hp->Prop),Rep X.K M0 H0 γ α ρ σ H->
 (∀J H1 gs,bQ H H1->(∀p∈gs,Dn X.K (MM M0 ρ α) H1 p.1 p.2)->Walk X.K J ds gs->R J H1)->tI X tg iter σ H R
section
variable {X:Cx}{M0:MP}{H0:Hp}{ρ:fB}{P:pJ}{e a b c tg iter:Expr}{es:List Expr}{d:D}{ds:List D}{pos p:Pos}{σ:St}{H:Hp}
theorem Ya:PI X tg iter (tI X tg iter):=fun pins s σ H R I h=>h pins s I
theorem _root_.L2.PI.to{t:TI}{R:It->Hp->Prop}(h:PI X tg iter t)(q:t σ H R):tI X tg iter σ H R:=fun pins s I=>h pins s σ H R I q
theorem iU.list(h:ar X ρ e (.lst ds)):iU X ρ tg e ds:=fun M0 H0 γ α σ H R r k=>(Dx iE).to (h M0 H0 γ α σ H _ r fun v H1 s x=>by
 obtain⟨q,xs,rfl,sq,dn⟩:=id x;refine⟨q,rfl,⟨xs,sq.l⟩,k (Ud X.K q) H1 [(.lst ds, .ref q)] s (fun p hp=>by rw [aJ.mp hp]; exact x) fun M H2 hg=> ?_⟩;obtain⟨q',BA,e1,J9,FH⟩:=hg _ (aJ.mpr rfl);cases e1;refine⟨fun i d hi=>⟨?_,fun x H' hy=> ?_⟩,⟨BA,J9.l,by rw [FH.len]; exact ay _⟩⟩
 ·obtain⟨v,h1,h2⟩:=FH.get hi;exact⟨BA,v,J9.l,h1⟩
 ·obtain⟨rfl,hy⟩:=hy;obtain⟨d',h1,h2⟩:=FH.getV (hy BA J9.l);rw [hi]at h1; cases h1;exact⟨bQ.refl _,h2⟩)
theorem iU.tup(h:ar X ρ e (.tup ds)):iU X ρ tg e ds:=fun M0 H0 γ α σ H R r k=>(OS iE).to (h M0 H0 γ α σ H _ r fun v H1 s x=>by
 obtain⟨q,xs,rfl,sq,dn⟩:=id x;refine⟨q,rfl,⟨xs,sq⟩,k (Tu X.K q) H1 [(.tup ds, .ref q)] s (fun p hp=>by rw [aJ.mp hp]; exact x) fun M H2 hg=> ?_⟩;obtain⟨q',BA,e1,J9,FH⟩:=hg _ (aJ.mpr rfl);cases e1;refine⟨fun i d hi=>⟨?_,fun x H' hy=> ?_⟩,⟨BA,J9,by rw [FH.len]; exact ay _⟩⟩
 ·obtain⟨v,h1,h2⟩:=FH.get hi;exact⟨BA,v,J9,h1⟩
 ·obtain⟨rfl,hy⟩:=hy;obtain⟨d',h1,h2⟩:=FH.getV (hy BA J9);rw [hi]at h1; cases h1;exact⟨bQ.refl _,h2⟩)
def jV(lo:Int)(n:Nat):List D:=(bj n).map fun(i:Nat)=>D.int (lo+(i:Int))
theorem AF{K:Frag}(lo:Int)(n:Nat):Walk K (QQ lo n) (jV lo n) []:=fun M H _=>by
 refine⟨fun i d hi=> ?_, ?_⟩
 ·unfold jV at hi;rw [aA]at hi;cases e:(bj n)[i]? with
  | none=>rw [e]at hi; cases hi
  | some j=>
   rw [e]at hi;obtain⟨h1,h2⟩:=aB.mp e;rw [bS]at h1;rw [Kp]at h2;subst h2;cases hi;exact⟨h1,fun x H' ⟨e1,e2⟩=>⟨by rw [e1]; exact bQ.refl _,e2⟩⟩
 ·show n<=_;unfold jV;rw [ae,bS];exact ay _
theorem iU.range{j:Int}{p1 p2:Pos}(hg:Gl X "range")(hm:X.mg "range"=none)(hs:ar X ρ e (.int j))(hj: -(2 ^ 62)<=j/\j < 2 ^ 62)(QT:ax [e] X.env= [(false,bV e X.env)]:=by rfl):
  iU X ρ tg (.Call (.Name "range" p1) [e] [] p2) (jV 0 j.toNat):=fun M0 H0 γ α σ H R r k=>(Fu hg hm xV QT).to ((aU.cons hs aU.nil QT) M0 H0 γ α σ H _ r fun vs H1 s x=>by
 obtain⟨v,r,rfl,e1,e2⟩:=x;cases e1; cases e2;exact⟨j,rfl,hj.1,hj.2,k _ H1 [] s (fun _ hp=>nomatch hp) (AF 0 _)⟩)
theorem iU.range2{i j:Int}{p1 p2:Pos}(hg:Gl X "range")(hm:X.mg "range"=none)(ha:ar X ρ a (.int i))(hs:ar X ρ e (.int j))(hj: -(2 ^ 62)<=i/\i < 2 ^ 62/\ -(2 ^ 62)<=j/\j < 2 ^ 62)
  (QT:ax [a,e] X.env= [(false,bV a X.env),(false,bV e X.env)]:=by rfl)(By:ax [e] X.env= [(false,bV e X.env)]:=by rfl):
  iU X ρ tg (.Call (.Name "range" p1) [a,e] [] p2) (jV i (j - i).toNat):=fun M0 H0 γ α σ H R r k=>(ET hg hm xV QT By).to ((aU.cons ha (aU.cons hs aU.nil By) (by rw [QT,By])) M0 H0 γ α σ H _ r fun vs H1 s x=>by
 obtain⟨v,r,rfl,e1,v2,r2,rfl,e2,e3⟩:=x;cases e1; cases e2; cases e3;exact⟨i,j,rfl,hj,k _ H1 [] s (fun _ hp=>nomatch hp) (AF i _)⟩)
theorem Rep.ghosts{K:Frag}{γ:List (D×V)}{α:Nat->ai}: ∀{gs:List (D×V)},Rep K M0 H0 γ α ρ σ H->(∀p∈gs,Dn K (MM M0 ρ α) H p.1 p.2)->Rep K M0 H0 (gs ++ γ) α ρ σ H:=fun{gs} r h=>
 ⟨r.same,r.old,r.inj,r.im,r.mu,fun p hp=>(bO.mp hp).elim (h p) (r.gh p),r.len⟩
theorem Rep.unghosts{K:Frag}{gs γ:List (D×V)}{α:Nat->ai}(r:Rep K M0 H0 (gs ++ γ) α ρ σ H):Rep K M0 H0 γ α ρ σ H:=
 ⟨r.same,r.old,r.inj,r.im,r.mu,fun q hq=>r.gh q (a_ _ hq),r.len⟩
theorem W1.for{body:List cF}(I:Nat->fB->Prop)(hp:vz (aC X.prog X.w) X.A X.env X.xe)(hc:X.calm=true)(hs:iU X ρ tg e ds)(h0:I 0 ρ)
  (ht: ∀i d ρ,ds[i]? =some d->I i ρ-> ∃ma,sW X tg d ρ ma/\WS X M0 H0 body ma {P with N:=I (i+1),C:=I (i+1),B:=P.N})(hd: ∀ρ,I ds.length ρ->P.N ρ)
  (hf: ∀x,fW e X.env x=pure x:=by intro _; rfl):W1 X M0 H0 (.For tg e body [] pos) ρ P:=fun γ α σ H R=>by
 refine(Jw hp hc Ya V_ gr hf).to (hs M0 H0 γ α σ H _ R fun J H1 gs s hg w=> ?_);refine⟨fun i m σ H=>m=ds.length - i/\i<=ds.length/\ ∃α ρ,Rep X.K M0 H0 (gs ++ γ) α ρ σ H/\I i ρ,⟨ds.length,by simp,bK _,α,ρ,(R.next s).ghosts hg,h0⟩, ?_⟩;rintro i m KO H2 ⟨rfl,hi,FG,ρ2,R2,i2⟩;obtain⟨w1,w2⟩:=w (MM M0 ρ2 FG) H2 fun p hp=>R2.gh p (fU _ hp)
 by_cases fj:i < ds.length
 ·obtain⟨g1,g2⟩:=w1 i ds[i] (ak fj);refine .inr ⟨g1,fun fA H'=> ∃α ρ,Rep X.K M0 H0 (gs ++ γ) α ρ fA H'/\I (i+1) ρ,fun fA H' ⟨α',ma,R',i'⟩=>⟨ds.length - (i+1),by omega,rfl,fj,α',ma,R',i'⟩,fun y H' hy=> ?_⟩;obtain⟨s2,dd⟩:=g2 y H' hy;obtain⟨ρ3,g,wb⟩:=ht i _ ρ2 (ak fj) i2;exact g M0 H0 _ FG KO _ y _ (R2.next s2) dd fun fA R3=>GF Rep.unghosts R3 wb
 ·have e:i=ds.length:=by omega
  subst e;exact .inl ⟨w2,FG,ρ2,R2.unghosts,hd _ i2⟩
end
def g_(X:Cx)(N':List Str)(scope:iF)(cl:List (Str×ai))(C:ai)(s₀:aj)(H₀:Hp)(fp:List ai)(pins:List (ai×Obj)):Cx:=
 {X with N:=N',s₀:=s₀,H₀:=H₀,env:=compEnvC scope cl C X.env,outer:=X.stack,stack:=X.stack,ex:=fp,fn:=fun _=>false,pn:=X.pn ++ pins,xe:=fun _ _=>False}
structure dU(X:Cx)(N':List Str)(js:List Nat)(scope:iF)(x:Str)(cl:List (Str×ai)):Prop where
 Ci:y4 scope X.env=pure cl
 cell: ∀y∈scope.names,y.2≠ .cell
 kind:scope.kind= .function
 names: ∀y∈scope.names,y.2= .local->scope.names.lookup y.1=some .local
 own:scope.names.lookup x=some .local
 hN: ∃r,N'=x::r/\r.length=js.length/\ ∀(i:Nat) (y:Str) (j:Nat),r[i]? =some y->js[i]? =some j->X.N[j]? =some y/\X.env.scope.names.lookup y=some .cell/\(qj scope X.env).names.lookup y=some .cell/\ ∀c,X.env.cells.lookup y=some c->cl.lookup y=some c
 sub: ∀y c,cl.lookup y=some c->X.env.cells.lookup y=some c
 has: ∀y,((qj scope X.env).names.lookup y=some .cell\/(qj scope X.env).names.lookup y=some .free)-> ∃c,cl.lookup y=some c
section
variable {X:Cx}{pins:List (ai×Obj)}{σ:St}{H H':Hp}{s:aj}{N':List Str}{js:List Nat}{scope:iF}{x:Str}{cl:List (Str×ai)}{px pos:Pos}{elt iter:Expr}
theorem sV(I:Inv X pins σ H s){b:ai}(h1:b≠X.env.locals)(h2:b∉X.fs):b∉Bt X.stack:=fun z=>by
 rcases aV.mp (I.stkSub b z)with e | e
 ·exact h1 e
 ·exact h2 e
theorem dU.cx(ok:dU X N' js scope x cl)(I:Inv X pins σ H s){fp:List ai}(hf: ∀b∈fp,ko X pins H b)(ho: ∀b∈fp,b < s.heap.objs.size):
  (g_ X N' scope cl s.heap.objs.size s H fp pins).Ok where
 mod:=I.ok.mod
 kind:=ok.kind
 glob:=I.ok.glob
 blt:=I.ok.blt
 above:=ay _
 inj:=fun y z c h1 h2=>I.ok.inj y z c (ok.sub y c h1) (ok.sub z c h2)
 has:=fun y h=>ok.has y h
 PC:=fun y c h _=>absurd (show false=true from h) aG
 hd:=I.ok.hd
 frames:=I.ok.frames
 yb:= .inl rfl
 T4:=fun b hb=>⟨aN (ho b hb),fun y c e=>(hf b hb).2.2.2.2.1 y c (ok.sub y c e)⟩
 bs:=I.bs
 Hk:=bg I.ok.Hk I.sz
 B0:=fun b o e hb=>by
  rcases(hf b hb).2.2.2.1 with z | z
  ·exact I.ok.B0 b o e z
  ·exact absurd (bB (az e) (bg I.ok.Hk z)) (fv _)
 HB:=fun b hb=>sV I (hf b hb).2.1 (hf b hb).2.2.1
 rA:=I.stack
 Nj:=I.stkFree
def Oo(σ:St)(js:List Nat):St:=none::js.map fun j=>(σ[j]?).join
theorem dU.inv(ok:dU X N' js scope x cl)(I:Inv X pins σ H s){fp:List ai}(hf: ∀b∈fp,ko X pins H b)(ho: ∀b∈fp,b < s.heap.objs.size){h₁:aY}{tk:Nat}{m:Str->Option af}
  (hn:h₁.Ns s.heap.objs.size m)(k: ∀b o,s.heap.get? b=some o->h₁.get? b=some o):Inv (g_ X N' scope cl s.heap.objs.size s H fp pins) [] (Oo σ js) H {s with heap:=h₁,toks:=tk}:=by
 obtain⟨r,rfl,Vf,hr⟩:=ok.hN;refine⟨ok.cx I hf ho,rfl,I.bare,Un.kept k,⟨m,hn,fun i y v h1 h2 _=> ?_⟩,fun y c e=> ?_,I.fb.fresh (ay _),fun y c e=>I.mV y c (ok.sub y c e),fun p hp=> ?_,I.fb.kept k, ?_⟩
 ·cases i with
  | zero=>have JS:(none:Option V)=some v:=aF h2; cases JS
  | succ i=>
   have Gh:r[i]? =some y:=h1;have JS:(js.map fun j=>(σ[j]?).join)[i]? =some (some v):=h2;rw [aA]at JS;cases ej:js[i]? with
   | none=>rw [ej]at JS; cases JS
   | some j=>
    rw [ej]at JS;have h3:(σ[j]?).join=some v:=aF JS;have h4:σ[j]? =some (some v):=by
     cases e:σ[j]? with
     | none=>rw [e]at h3; cases h3
     | some w=>rw [e]at h3; exact congrArg some h3
    obtain⟨q1,q2,q3,q4⟩:=hr i y j Gh ej;obtain⟨m0,_,hl⟩:=I.loc;obtain⟨u,ru,lk⟩:=hl j y v q1 h4 (.inr (.inl q2));refine⟨u,ru, ?_⟩
    rcases lk with⟨z,_⟩ | ⟨_,c,e1,o,e2,e3⟩
    ·have z':X.env.scope.names.lookup y=some .local:=z;rw [q2]at z'; cases z'
    ·exact .inr ⟨.inl q3,c,q4 c e1,o,k _ _ e2,e3⟩
 ·obtain⟨v,o,e1,e2⟩:=I.cell y c (ok.sub y c e);exact⟨v,o,k _ _ e1,e2⟩
 ·have qU:p∈X.pn ++ pins:=by
   have z:p∈(X.pn ++ pins) ++ []:=hp
   rwa [bz]at z
  obtain⟨e,n,ne,nf,d⟩:=I.pin p qU;exact⟨k _ _ e,n,aN (az e),sV I ne nf,d⟩
 ·show(none::js.map fun j=>(σ[j]?).join).length=(x::r).length;rw [aK,ae,aK,Vf]
theorem dU.out(ok:dU X N' js scope x cl)(I:Inv X pins σ H s){fp:List ai}(hf: ∀b∈fp,ko X pins H b){fA:St}{s':aj}(J:Inv (g_ X N' scope cl s.heap.objs.size s H fp pins) [] fA H' s'):
  Inv X pins σ H' s'/\ko X pins H' s.heap.objs.size:=by
 have I':Inv X pins σ H' s':=I.call' (ch:=fp) J.os J.base J.fb J.bare fun b hb=>⟨(hf b hb).2.2.2.1,(hf b hb).2.1,(hf b hb).2.2.2.2.1,(hf b hb).2.2.2.2.2⟩;exact⟨I',I.fpOk (ay _) J.free⟩
end
section
variable {prog:aH}{w:aW}{A:bA}{R:Result->aj->Prop}{s:aj}
abbrev Ac:af->aj->Prop:=fun _ _=>False
theorem EU{elt target iter:Expr}{scope:iF}{pos:Pos}{it acc:af}{env:Env}(I:Nat->aj->Prop)
  (turn: ∀n s,I n s->av (aC prog w) A (jb it) (fun r eK=>match r with
   | none=>R (.ok .next) eK
   | some v=>av (aC prog w) A (oX target it v) (fun _ cE=>av (aC prog w) A (lL target env v) (fun _ oh=>av (aC prog w) A (bV elt env) (fun y yU=>
     av (aC prog w) A (call (.builtin "list.append") [acc,y]) (fun _ JQ=> ∃m,m < n/\I m JQ) Ac yU) Ac oh) Ac cE) Ac eK) Ac s)(n:Nat)(h:I n s):
  gj (aC prog w) A (.compLoop (.ListComp elt [⟨target,iter, [],0⟩] scope pos) 0 it acc env) R s:=by
 refine codeAny_loop rfl I (fun n s hI=> ?_) n h;show av _ A ((compTurn (.ListComp elt [⟨target,iter, [],0⟩] scope pos) 0 it acc env).onRaise (fun x=>do noteFrame x env; theTreesLotGoes x)) _ _ s;refine wpAny_noted ?_;rw [compTurn_list];refine aa (mL (aa (b_ (turn n s hI) (fun r eK h₁=> ?_) fun _ _ z=>z.elim)));cases r with
 | none=>exact ag h₁
 | some v=>
  refine aa (b_ h₁ (fun _ cE sk=> ?_) fun _ _ z=>z.elim);refine aa (b_ sk (fun _ oh yT=>aa (ag ?_)) fun _ _ z=>z.elim);exact aa (aa (b_ yT (fun y yU pj=>aa (b_ pj (fun _ JQ mJ=>ag (ag ⟨rfl,mJ⟩)) fun _ _ z=>z.elim)) fun _ _ z=>z.elim))
end
structure T6(K:Frag)(M:MP)(H1:Hp)(es:List D)(i:Nat)(D0:ai)(ys:List V)(H:Hp):Prop where
 same:bQ H1 H
 at_:H D0=some (.lst ys)
 dn:cU K (fun a=>M a\/a=D0) H (es.take i) ys
section
variable {X:Cx}{pins:List (ai×Obj)}{σ:St}{H1:Hp}{cE:aj}{N':List Str}{js:List Nat}{scope:iF}{x:Str}{cl:List (Str×ai)}{px pos:Pos}{elt iter:Expr}{J:It}{fp:List ai}{it:ai}{tn:Nat->aY->Prop}
 {ds es cs:List D}{gs:List (D×V)}{M:MP}{E:af->aj->Prop}{RR:af->ai->Result->aj->Prop}
def jR(d:D)(cs:List D):fB:= .im d::cs.map .im
def Ip(K:Frag)(M:MP)(H:Hp)(σ:St)(js:List Nat)(cs:List D):Prop:=js.length=cs.length/\ ∀(k j:Nat) (c:D),js[k]? =some j->cs[k]? =some c-> ∃v,σ[j]? =some (some v)/\Dn K M H c v
theorem tU(ok:dU X N' js scope x cl)(hc:X.calm=true)(FK:N'.Nodup)(I:Inv X pins σ H1 cE)(T:Turn X.prog X.w X.K (.Name x px) J fp it tn)(st:tn 0 cE.heap)(hf: ∀b∈fp,ko X pins H1 b)
  (hg: ∀p∈gs,Dn X.K M H1 p.1 p.2)(w:Walk X.K J ds gs)(hl:es.length=ds.length)(hsz:ds.length<=1000000)(CN:Ip X.K M H1 σ js cs)(hM: ∀a,M a->H1 a≠none)
  (rB: ∀(C:ai) (s₀:aj) (H₀:Hp) (i:Nat) (d e:D),ds[i]? =some d->es[i]? =some e->ar (g_ X N' scope cl C s₀ H₀ fp pins) (jR d cs) elt e)
  (U1: ∀(D0 C:ai) (m:Str->Option af) (s1:aj) (H:Hp) (ys:List V),Inv X pins σ H s1->s1.heap.Ns C m->ko X pins H C->H1 D0=none->bQ H1 H->H D0=some (.lst ys)->cU X.K (fun a=>M a\/a=D0) H es ys->RR (.ref D0) C (.ok .next) s1):
  av (aC X.prog X.w) X.A (xr []) (fun acc oh=>av (aC X.prog X.w) X.A (newFunctionEnv scope X.env.globals cl [] X.env.qual none .none (some X.env)) (fun JY yU=>
   gj (aC X.prog X.w) X.A (.compStart (.ListComp elt [⟨.Name x px,iter, [],0⟩] scope pos) 0 (.ref it) acc {JY with scope:=qj scope X.env}) (RR acc JY.locals) yU) E oh) E cE:=by
 refine bx (wpAny_newFunctionEnv ok.cell (by intro y hy; simp at hy) (fun h₁ pW p0=> ?_) ok.kind);dsimp only at pW p0 ⊢;have hD:H1 cE.heap.objs.size=none:=I.fresh;have I3:Inv X pins σ (upd H1 cE.heap.objs.size (.lst [])) {cE with heap:=cE.heap.push {cls:= .type "list",data:= .seq ([]:List af).toArray}}:=I.lnew (its:= []) (t':=cE.toks) (ys:= []) .nil (bK _);have Pj: ∀b∈fp, ∃o,cE.heap.get? b=some o:=fun b hb=>let⟨o,e,_⟩:=T.obj _ _ st b hb; ⟨o,e⟩;have RU: ∀b∈fp,b < cE.heap.objs.size:=fun b hb=>let⟨o,e⟩:=Pj b hb; az e;have CW: ∀b∈fp,ko X pins (upd H1 cE.heap.objs.size (.lst [])) b:=fun b hb=>⟨by rw [b8 (aN (RU b hb))]; exact(hf b hb).1,(hf b hb).2⟩;generalize hH2:cE.heap.push {cls:= .type "list",data:= .seq ([]:List af).toArray}=H2 at I3 pW p0 ⊢;have VO:H2.objs.size=cE.heap.objs.size+1:=by rw [<-hH2,c8]
 have RV: ∀b∈fp,b < H2.objs.size:=fun b hb=>by rw [VO]; exact cZ (RU b hb)
 have k1: ∀b o,H2.get? b=some o->h₁.get? b=some o:=fun b o e=>p0.extBut b o (aN (az e)) (ah _ e);have k2: ∀b o,cE.heap.get? b=some o->h₁.get? b=some o:=fun b o e=>k1 b o (by rw [<-hH2]; exact ah _ e);have I4:=ok.inv (tk:=cE.toks+([]:List (Str×af)).length) I3 CW RV pW k1;have MF:tn 0 h₁:=T.keep _ _ _ st fun b hb o e=>k2 b o e;generalize hX:g_ X N' scope cl H2.objs.size {cE with heap:=H2} (upd H1 cE.heap.objs.size (.lst [])) fp pins=X' at I4;have Px: ∀(H:Hp),(∀b∈fp,H b=none)-> ∀b∈fp,ko X' [] H b:=fun H hn b hb=>by
  subst hX;refine⟨hn b hb,aN (RV b hb),sV I3 (CW b hb).2.1 (CW b hb).2.2.1, .inl hb,fun y c e=>(CW b hb).2.2.2.2.1 y c (ok.sub y c e),fun p hp=> ?_⟩;have z:p∈(X.pn ++ pins) ++ []:=hp;rw [bz]at z;exact(CW b hb).2.2.2.2.2 p z
 have out: ∀(H:Hp) (s1:aj) (fA:St),Inv X' [] fA H s1->Inv X pins σ H s1/\ko X pins H H2.objs.size:=fun H s1 fA J=>by
  subst hX;exact ok.out I3 CW J
 have O0: ∀(i:Nat) (d e:D),ds[i]? =some d->es[i]? =some e->ar X' (jR d cs) elt e:=fun i d e h1 h2=>by
  subst hX;exact rB _ _ _ i d e h1 h2
 have wo:X'.env=compEnvC scope cl H2.objs.size X.env:=by rw [<-hX]; rfl
 have N0:X'.N=N':=by rw [<-hX]; rfl
 have p1:X'.prog=X.prog:=by rw [<-hX]; rfl
 have p2:X'.w=X.w:=by rw [<-hX]; rfl
 have p3:X'.K=X.K:=by rw [<-hX]; rfl
 have p4:X'.calm=true:=by rw [<-hX]; exact hc
 have p5:X'.A=X.A:=by rw [<-hX]; rfl
 have p6:X'.xe=Ac:=by rw [<-hX]; rfl
 clear hX;obtain⟨r0,VM,Vf,hr⟩:=ok.hN;have Vu:X'.N[0]? =some x:=by rw [N0,VM]; rfl
 have JR:X'.env.scope.names.lookup x=some .local:=by rw [wo]; exact lookup_relabel_local ok.own
 have VJ: ∀a,(M a\/a=cE.heap.objs.size)-> ∀H,bQ H1 H->(∃ys,H cE.heap.objs.size=some (.lst ys))->H a≠none:=fun a ha H sm Vn z=>by
  rcases ha with ha | rfl
  ·exact hM a ha (sm.free z)
  ·obtain⟨ys,e⟩:=Vn;rw [z]at e; cases e
 have loop: ∀oh:aj,oh={cE with heap:=h₁,toks:=cE.toks+([]:List (Str×af)).length}->
   gj (aC X.prog X.w) X.A (.compLoop (.ListComp elt [⟨.Name x px,iter, [],0⟩] scope pos) 0 (.ref it) (.ref cE.heap.objs.size) (compEnvC scope cl H2.objs.size X.env)) (RR (.ref cE.heap.objs.size) H2.objs.size) oh:=by
  intro oh PQ;refine EU (fun n s'=> ∃(i:Nat) (ys:List V) (H:Hp) (fA:St),n=ds.length - i/\i<=ds.length/\Inv X' [] fA H s'/\(∃ov,fA=ov::(Oo σ js).tail)/\tn i s'.heap/\(∀b∈fp,H b=none)/\T6 X.K M H1 es i cE.heap.objs.size ys H) ?_ ds.length
   ⟨0, [],_,_,rfl,bK _,by rw [PQ]; exact I4,⟨none,rfl⟩,by rw [PQ]; exact MF,fun b hb=>(CW b hb).1,bJ hD,bI,by rw [h_]; exact rfl⟩
  rintro n s' ⟨i,ys,H,fA,rfl,hi,Iv,⟨ov,eσ⟩,sti,fri,ci⟩;have VD: ∀p∈gs,Dn X.K (fun a=>M a\/a=cE.heap.objs.size) H p.1 p.2:=fun p hp=>((hg p hp).re fun a m=>m.elim .inl fun z=> .inr (by rw [z]; exact hD)).same ci.same;obtain⟨w1,w2⟩:=w _ H VD;have item:=T.item X' p1 p2 p3 p4 i [] s' fA H Ac Iv (Px H fri) sti;have done:=T.done X' p1 p2 p3 p4 i [] s' fA H Ac Iv (Px H fri) sti;rw [p5]at item done
  by_cases fj:i < ds.length
  ·obtain⟨g1,g2⟩:=w1 i ds[i] (ak fj);refine fx (item g1) fun r s4 ⟨u,pF,h4⟩=> ?_;subst pF;refine fx h4 fun _ s5 ⟨y,H5,I5,r5,y5,st5,fr5⟩=> ?_;obtain⟨Nl,d5⟩:=g2 y H5 y5;have Rc:=I5.pinned (Px H5 fr5) (T.obj _ _ st5);have asg:=sL (X:=X') (pos:=px) (i:=0) (by rw [N0]; exact FK) Vu (.inl JR) (.inr JR) _ s5 fA H5 y u (fun O7 H6=>O7=fA.set 0 (some y)/\H6=H5) Rc r5 ⟨rfl,rfl⟩;rw [p1,p2,p5,p6,wo]at asg;refine fx asg fun _ s6 ⟨O7,H6,I6,e6,e6'⟩=> ?_;subst e6 e6';have ei:es[i]? =some (es[i]'(by rw [hl]; exact fj)):=ak _;have ev:=O0 i _ _ (ak fj) ei;have A4:bQ H1 H6:=ci.same.trans Nl;have Nq:H6 cE.heap.objs.size=some (.lst ys):=Nl _ _ ci.at_;have Rp:Rep X'.K (fun a=>M a\/a=cE.heap.objs.size) H6 [] (fun _=>0) (jR ds[i] cs) (fA.set 0 (some y)) H6:=by
    refine⟨bQ.refl _,fun a ha=>VJ a ha H6 A4 ⟨ys,Nq⟩,fun k l fs Za e1=> ?_,fun k d0 e1=> ?_,fun k fs e1=> ?_,(fun p hp=>by cases hp), ?_⟩
    ·exfalso;unfold jR at e1;cases k with
     | zero=>cases aF e1
     | succ k=>
      rw [cM,aA]at e1;cases z:cs[k]? with
      | none=>rw [z]at e1; cases e1
      | some c=>rw [z]at e1; cases aF e1
    ·have RN: ∀a,MM (fun a=>M a\/a=cE.heap.objs.size) (jR ds[i] cs) (fun _=>0) a->(M a\/a=cE.heap.objs.size):=fun a ha=>by
      rcases ha with ha | ⟨k',fs,e2,_⟩
      ·exact ha
      ·exfalso;unfold jR at e2;cases k' with
       | zero=>cases aF e2
       | succ k'=>
        rw [cM,aA]at e2;cases z:cs[k']? with
        | none=>rw [z]at e2; cases e2
        | some c=>rw [z]at e2; cases aF e2
     subst eσ;unfold jR at e1;cases k with
     | zero=>
      have z:Sl.im ds[i]=Sl.im d0:=aF e1;cases z;refine⟨y,rfl, ?_⟩;rw [p3];exact d5.less RN
     | succ k=>
      rw [cM,aA]at e1;cases z:cs[k]? with
      | none=>rw [z]at e1; cases e1
      | some c=>
       rw [z]at e1;have z':Sl.im c=Sl.im d0:=aF e1;have hk:k < js.length:=by rw [CN.1]; exact(aB.mp z).1
       obtain⟨v,hv,dv⟩:=CN.2 k js[k] c (ak hk) z;cases z';refine⟨v, ?_, ?_⟩
       ·show(js.map fun j=>(σ[j]?).join)[k]? =some (some v);rw [aA,ak hk];show some (σ[js[k]]?).join=_;rw [hv];rfl
       ·rw [p3];exact(((dv.re fun a m=>m.elim .inl fun q=> .inr (by rw [q]; exact hD)).same A4)).less RN
    ·exfalso;unfold jR at e1;cases k with
     | zero=>cases aF e1
     | succ k=>
      rw [cM,aA]at e1;cases z:cs[k]? with
      | none=>rw [z]at e1; cases e1
      | some c=>rw [z]at e1; cases aF e1
    ·subst eσ;rw [bF];show(js.map fun j=>(σ[j]?).join).length+1=(cs.map Sl.im).length+1;rw [ae,ae,CN.1]
   have RC:=ev _ H6 [] (fun _=>0) _ H6 (fun v H'=>bQ H6 H'/\Dn X.K (fun a=>M a\/a=cE.heap.objs.size) H' (es[i]'(by rw [hl]; exact fj)) v) Rp (fun v H' sm dn=>⟨sm,by
    rw [p3]at dn;exact dn.less fun a ha=> .inl ha⟩) _ s6 I6
   rw [p1,p2,p5,p6,wo]at RC;refine fx RC fun yv s7 ⟨v,H7,I7,r7,Mw,dn7⟩=> ?_;have ap:=lW (X:=X') _ s7 _ H7 (.ref cE.heap.objs.size) [v] (.ref cE.heap.objs.size) [yv] (fun _ H8=>H8=upd H7 cE.heap.objs.size (.lst (ys ++ [v]))) I7 rfl (.cons r7 .nil)
    ⟨_,ys,v,rfl,rfl,Mw _ _ Nq,by rw [ci.dn.len,bh]; exact jc (bg (Nat.min_le_left _ _) (by omega)) (by decide:(1000000:Nat) < sizeLine),rfl⟩
   rw [p1,p2,p5,p6]at ap;refine fx ap fun _ s8 ⟨_,H8,I8,_,e8⟩=> ?_;subst e8;refine⟨ds.length - (i+1),by omega,i+1,ys ++ [v],_,_,rfl,fj,I8.unpinned,⟨some y,by rw [eσ]; rfl⟩,
    T.keep _ _ _ st5 fun b hb o e=>(I8.pin (b,o) (a_ _ (a_ _ (gX hb e)))).1,fun b hb=> ?_, ?_⟩
   ·obtain⟨o,e,_⟩:=T.obj _ _ st5 b hb;exact(I8.pin (b,o) (a_ _ (a_ _ (gX hb e)))).2.1
   ·refine⟨fM (A4.trans Mw) hD,bI, ?_⟩;have kp:q8 (fun a=>M a\/a=cE.heap.objs.size) H7 (upd H7 cE.heap.objs.size (.lst (ys ++ [v]))):=fun b o e n=>by
     by_cases hb:b=cE.heap.objs.size
     ·subst hb;rw [Mw _ _ Nq]at e; cases e;exact absurd (.inr rfl) (n _ rfl)
     ·rw [b8 hb]; exact e
    rw [di,ei];exact(cU.app (ci.dn.same (Nl.trans Mw)) (cU.one dn7)).keep kp
  ·have e:i=ds.length:=by omega
   subst e;refine fx (done w2) fun r s4 ⟨pF,I5⟩=> ?_;subst pF;obtain⟨o1,o2⟩:=out H s4 fA I5;obtain⟨m,hn,_⟩:=I5.loc;rw [wo]at hn;refine U1 _ _ m s4 H ys o1 hn o2 hD ci.same ci.at_ ?_;have:=ci.dn;rw [<-hl,df]at this;exact this
 exact codeAny_compStart_list (loop _ rfl) (T.self X.A 0 _ _ _ MF (loop _ rfl))
def vV(ρ:fB)(js:List Nat)(cs:List D):Prop:=js.length=cs.length/\ ∀(k j:Nat) (c:D),js[k]? =some j->cs[k]? =some c->ρ[j]? =some (.im c)
theorem vV.ok{K:Frag}{M0:MP}{H0 H H':Hp}{γ:List (D×V)}{α:Nat->ai}{ρ:fB}{σ:St}(h:vV ρ js cs)(R:Rep K M0 H0 γ α ρ σ H)(s:bQ H H'):Ip K (MM M0 ρ α) H' σ js cs:=
 ⟨h.1,fun k j c e1 e2=>let⟨v,q1,q2⟩:=R.im j c (h.2 k j c e1 e2); ⟨v,q1,q2.same s⟩⟩
theorem i6{K:Frag}{M0:MP}{H0 H H':Hp}{γ:List (D×V)}{α:Nat->ai}{ρ:fB}{σ:St}(R:Rep K M0 H0 γ α ρ σ H)(s:bQ H H'): ∀a,MM M0 ρ α a->H' a≠none:=fun a ha z=>by
 have z':=s.free z
 rcases ha with ha | ⟨i,ds,e,rfl⟩
 ·exact R.old a ha (R.same.free z')
 ·obtain⟨_,_,xs,e3,_⟩:=R.mu i ds e;rw [z']at e3; cases e3
theorem dF.comp{ρ:fB}(ok:dU X N' js scope x cl)(hc:X.calm=true)(FK:N'.Nodup)(hs:iU X ρ (.Name x px) iter ds)(Ei:vV ρ js cs)(hl:es.length=ds.length)(hsz:ds.length<=1000000)
  (rB: ∀(C:ai) (s₀:aj) (H₀:Hp) (fp:List ai) (pins:List (ai×Obj)) (i:Nat) (d e:D),ds[i]? =some d->es[i]? =some e->ar (g_ X N' scope cl C s₀ H₀ fp pins) (jR d cs) elt e)
  (MH: ∀v,fW iter X.env v=pure v:=by intro _; rfl):dF X ρ (.ListComp elt [⟨.Name x px,iter, [],0⟩] scope pos) es:=fun M0 H0 γ α σ H Q R k pins s I=>by
 rw [eval_ListComp];refine mP (use:=none) rfl MH ok.Ci ok.kind ok.names ?_;have h:=hs M0 H0 γ α σ H (fun J H1=> ∃gs,bQ H H1/\(∀p∈gs,Dn X.K (MM M0 ρ α) H1 p.1 p.2)/\Walk X.K J ds gs) R (fun J H1 gs s g w=>⟨gs,s,g,w⟩) pins s I;refine fx h fun v s1 h1=>fx h1 fun PM s2 ⟨it,fp,tn,J,H1,e,I2,T,st,f,gs,sm,hg,w⟩=> ?_;subst e;refine tU ok hc FK I2 T st f hg w hl hsz (Ei.ok R sm) (i6 R sm) (fun C s₀ H₀ i d e=>rB C s₀ H₀ fp pins i d e) fun D0 C m s1 H2 ys I1 hn fo hD Ph ha dn=> ?_;exact⟨m,hn,fun h' sb=>⟨.ref D0,H2,I1.turned (t':=s1.toks) (fun b o hb e=>sb.extBut b o hb e) fo.1 fo.2.1 fo.2.2.2.1 fo.2.2.2.2.1 fo.2.2.2.2.2,rfl,k D0 ys H1 H2 sm hD Ph ha dn⟩⟩
theorem W1.comp{ρ:fB}{M0:MP}{H0:Hp}{P:pJ}{i:Nat}{y:Str}{py Kk:Pos}(ok:dU X N' js scope x cl)(hc:X.calm=true)(FK:N'.Nodup)(hs:iU X ρ (.Name x px) iter ds)(Ei:vV ρ js cs)(hl:es.length=ds.length)(hsz:ds.length<=1000000)
  (rB: ∀(C:ai) (s₀:aj) (H₀:Hp) (fp:List ai) (pins:List (ai×Obj)) (i:Nat) (d e:D),ds[i]? =some d->es[i]? =some e->ar (g_ X N' scope cl C s₀ H₀ fp pins) (jR d cs) elt e)
  (hN:X.N.Nodup)(hi:X.N[i]? =some y)(hy:X.env.scope.names.lookup y=some .local)(fj:i < ρ.length)(q:P.N (ρ.set i (.mu es)))
  (CV:cu (.ListComp elt [⟨.Name x px,iter, [],0⟩] scope pos) (some (.Name y py)) Kk.line X.env=pure true:=by rfl)(MH: ∀v,fW iter X.env v=pure v:=by intro _; rfl):
  W1 X M0 H0 (.Assign [.Name y py] (.ListComp elt [⟨.Name x px,iter, [],0⟩] scope pos) Kk) ρ P:=fun γ α σ H R pins s I=>by
 rw [exec_Assign_Name_used _ _ _ _ CV];refine aa (mL (aa ?_));show av _ X.A (do let _<-comprehension (.ListComp elt [⟨.Name x px,iter, [],0⟩] scope pos) scope X.env _ (xr []) false (bV iter X.env) (some (lL (.Name y py) X.env))) _ _ s;refine aa (b_ (mP (use:=some (lL (.Name y py) X.env)) (Q:=fun _ s'=>SP X pins (ends X.K M0 H0 γ P) .next s') rfl MH ok.Ci ok.kind ok.names ?_) (fun _ s' hq=>ag (ag hq)) fun _ _ e=>e);have h:=hs M0 H0 γ α σ H (fun J H1=> ∃gs,bQ H H1/\(∀p∈gs,Dn X.K (MM M0 ρ α) H1 p.1 p.2)/\Walk X.K J ds gs) R (fun J H1 gs s g w=>⟨gs,s,g,w⟩) pins s I;refine fx h fun v s1 h1=>fx h1 fun PM s2 ⟨it,fp,tn,J,H1,e,I2,T,st,f,gs,sm,hg,w⟩=> ?_;subst e;refine tU ok hc FK I2 T st f hg w hl hsz (Ei.ok R sm) (i6 R sm) (fun C s₀ H₀ i d e=>rB C s₀ H₀ fp pins i d e) fun D0 C m s1 H2 ys I1 hn fo hD Ph ha dn=> ?_;show av _ _ (lL (.Name y py) X.env (.ref D0)) _ _ s1;refine KQ (qY (v:= .ref D0) I1 hN hi (.inl hy) rfl (fun s' I' ⟨a,sb,ea⟩=> ?_) (.inr hy));have Vj:C≠a:=by
  rcases ea with rfl | ea
  ·exact fo.2.1
  ·exact fun z=>fo.2.2.2.2.1 y a ea z.symm
 refine⟨m,hn.at' fun o e=>sb.extBut C o Vj e,fun h' VV=>⟨_,H2,I'.turned (t':=s'.toks) (fun b o hb e=>VV.extBut b o hb e) fo.1 fo.2.1 fo.2.2.2.1 fo.2.2.2.2.1 fo.2.2.2.2.2, ?_⟩⟩;exact⟨_,_,(R.next sm).set_mu fj hD Ph ha dn,q⟩
end
def nX(K:Frag){ι:Type}(args:ι->List D)(pre:ι->Prop)(res:ι->Except ai D):Sp:=fun vs H Q E=>
 ∃(i:ι) (M0:MP),(∀a,M0 a->H a≠none)/\cU K M0 H (args i) vs/\pre i/\(∀d,res i= .ok d-> ∀v H',bQ H H'->Dn K M0 H' d v->Q v H')/\(∀C,res i= .error C-> ∀a H',bQ H H'->E (.ref C) a H')
structure j6(P:aH)(w:aW)(K:Frag)(mg:Str->Option af)(base:aY)(CX:k_)(k:Nat)(x:Str){ι:Type}(args:ι->List D)(pre:ι->Prop)(res:ι->Except ai D):Prop where
 ex: ∃(f:ai) (fd:bb) (ps:List Str),mZ P w K mg base CX k f fd ps (nX K args pre res)/\mg x=some (.ref f)/\gz K (.ref f)=true/\Binds K fd ps []
def D.noL:Nat->D->Prop
 | _, .non=>True
 | _, .bl _=>True
 | _, .int _=>True
 | _, .str _=>True
 | n+1, .tup ds=> ∀d∈ds,D.noL n d
 | _,_=>False
theorem Dn.noL{K:Frag}{M M':MP}{H:Hp}: ∀(n:Nat) {d:D} {v:V},D.noL n d->Dn K M H d v->Dn K M' H d v:=by
 intro n
 induction n with
 | zero=>intro d v hf h; cases d <;> first | exact h | exact hf.elim
 | succ n ih=>
  intro d v hf h;cases d with
  | tup ds=>
   obtain⟨a,xs,e,s,r⟩:=h;refine⟨a,xs,e,s, ?_⟩;clear s e
   induction ds generalizing xs with
   | nil=>exact r
   | cons d ds hi=>
    obtain⟨v,t,e,h1,h2⟩:=r;exact⟨v,t,e,ih (hf d (.head _)) h1,hi (fun x hx=>hf x (.tail _ hx)) t h2⟩
  | non=>exact h
  | bl _=>exact h
  | int _=>exact h
  | str _=>exact h
  | _=>exact hf.elim
section
variable {X:Cx}{ρ:fB}{e:Expr}{es:List Expr}{d:D}{pos p:Pos}{CX:k_}{k:Nat}{x:Str}{ι:Type}{args:ι->List D}{pre:ι->Prop}{res:ι->Except ai D}
theorem ar.call(F:j6 X.prog X.w X.K X.mg X.base CX k x args pre res)(hr:eW k X.A)(hx:Passes CX X E0)(hg:Gl X x)(i:ι)(ha:aU X ρ (e::es) (args i))(hp:pre i)(md:res i= .ok d)(p9:(x==("__debug__":Str))=false:=by decide)
  (he:ax (e::es) X.env=(false,bV e X.env)::ax es X.env:=by rfl)(hpl:(fc pos (ax es X.env)).any (·.1)=false:=by rfl):ar X ρ (.Call (.Name x p) (e::es) [] pos) d:=fun M0 H0 γ α σ H Q R kk=>by
 obtain⟨f,fd,ps,F,hm,hk,hb⟩:=F.ex;refine(sQ F hr hg hm hk hb .nil hx xV p9 he hpl).to (ha M0 H0 γ α σ H _ R fun vs H1 s1 d1=> ?_);show nX X.K args pre res (vs ++ []) H1 Q E0;rw [bz];exact⟨i,MM M0 ρ α,i6 R s1,d1,hp,fun d' e v H2 s2 dn=>by rw [md]at e; cases e; exact kk v H2 (s1.trans s2) dn,fun C e=>by rw [md]at e; cases e⟩
theorem zy.noM{K:Frag}{M:MP}{H:Hp}: ∀{ds:List D} {vs:List V},zy K M H ds vs->cU K PB H ds vs
 | [],_,h=>h
 | d::ds,_,⟨v,r,e,h1,h2⟩=>⟨v,r,e,by
   cases d with
   | lst es=>
    obtain⟨a,xs,e1,s,q⟩:=h1;refine⟨a,xs,e1, ?_,q.less fun _ z=>z.elim⟩
    rcases s with s | s
    ·exact .inl ⟨s,fun z=>z⟩
    ·exact .inr s
   | _=>exact Dn.noM (M:=M) h1,zy.noM h2⟩
theorem ar.callR(F:j6 X.prog X.w X.K X.mg X.base CX k x args pre res)(hr:eW k X.A)(hx:Passes CX X E0)(hg:Gl X x)(i:ι)(ha:vI X ρ (e::es) (args i))(hp:pre i)(md:res i= .ok d)(hd:D.noL 9 d)(p9:(x==("__debug__":Str))=false:=by decide)
  (he:ax (e::es) X.env=(false,bV e X.env)::ax es X.env:=by rfl)(hpl:(fc pos (ax es X.env)).any (·.1)=false:=by rfl):ar X ρ (.Call (.Name x p) (e::es) [] pos) d:=fun M0 H0 γ α σ H Q R kk=>by
 obtain⟨f,fd,ps,F,hm,hk,hb⟩:=F.ex;refine(sQ F hr hg hm hk hb .nil hx xV p9 he hpl).to (ha M0 H0 γ α σ H _ R fun vs H1 s1 d1=> ?_);show nX X.K args pre res (vs ++ []) H1 Q E0;rw [bz];exact⟨i,PB,fun a z=>z.elim,d1.noM,hp,fun d' e v H2 s2 dn=>by rw [md]at e; cases e; exact kk v H2 (s1.trans s2) (Dn.noL 9 hd dn),fun C e=>by rw [md]at e; cases e⟩
end
section
variable {X:Cx}{ρ:fB}{e:Expr}{ds:List D}{pos p:Pos}
theorem ar.lenL(hg:Gl X "len")(hm:X.mg "len"=none)(h:kR X ρ e (.lst ds))(he:ax [e] X.env= [(false,bV e X.env)]:=by rfl):ar X ρ (.Call (.Name "len" p) [e] [] pos) (.int ds.length):=ar.len hg hm h rfl he
theorem ar.lenT(hg:Gl X "len")(hm:X.mg "len"=none)(h:ar X ρ e (.tup ds))(he:ax [e] X.env= [(false,bV e X.env)]:=by rfl):ar X ρ (.Call (.Name "len" p) [e] [] pos) (.int ds.length):=ar.len hg hm h.r rfl he
theorem dF.listL(hg:Gl X "list")(hm:X.mg "list"=none)(h:kR X ρ e (.lst ds))(he:ax [e] X.env= [(false,bV e X.env)]:=by rfl):dF X ρ (.Call (.Name "list" p) [e] [] pos) ds:=dF.list hg hm (by decide +kernel) h rfl he
theorem dF.listT(hg:Gl X "list")(hm:X.mg "list"=none)(h:ar X ρ e (.tup ds))(he:ax [e] X.env= [(false,bV e X.env)]:=by rfl):dF X ρ (.Call (.Name "list" p) [e] [] pos) ds:=dF.list hg hm (by decide +kernel) h.r rfl he
theorem ar.tupleL(hg:Gl X "tuple")(hm:X.mg "tuple"=none)(h:kR X ρ e (.lst ds))(he:ax [e] X.env= [(false,bV e X.env)]:=by rfl):ar X ρ (.Call (.Name "tuple" p) [e] [] pos) (.tup ds):=ar.tuple hg hm (by decide +kernel) h rfl he
end
theorem sN{α β:Type}(g:α->β)(xs:List α)(k:Int):vY (xs.map g) k=(vY xs k).map g:=by
 unfold vY;rw [ae];cases Ji xs.length k with
 | none=>rfl
 | some j=>show(xs.map g)[j]? =(xs[j]?).map g; rw [aA]
theorem pM{α:Type}{xs:List α}{k:Int}{j:Nat}(hk:k=(j:Int))(h:j < xs.length):vY xs k=some xs[j]:=by
 subst hk; exact xM (ak h)
def uh(N:List Str)(ds:List D):fB:=ds.map .im ++ fD (N.length - ds.length) .un
section
variable {P:aH}{w:aW}{K:Frag}{mg:Str->Option af}{base:aY}{CX:k_}{k:Nat}{x qual:Str}{st:cF}{f:ai}{fd:bb}{N ps:List Str}{ι:Type}{args:ι->List D}{pre:ι->Prop}{res:ι->Except ai D}
theorem rep0{ds:List D}{vs:List V}{M0:MP}{H:Hp}{α:Nat->ai}(hM: ∀a,M0 a->H a≠none)(h:cU K M0 H ds vs):Rep K M0 H [] α (uh N ds) (L2.start N vs) H:=by
 have hl:=h.len;have get: ∀(i:Nat) (s:Sl),(uh N ds)[i]? =some s->(∃d,ds[i]? =some d/\s= .im d)\/s= .un:=fun i s e=>by
  unfold uh at e
  by_cases hi:i < ds.length
  ·rw [cS (by simpa using hi),aA,ak hi]at e;exact .inl ⟨_,ak hi,(aF e).symm⟩
  ·rw [cL (by simpa using hi),BF]at e
   split at e
   ·exact .inr (aF e).symm
   ·cases e
 refine⟨bQ.refl _,hM,fun i j es fs e1=> ?_,fun i d e=> ?_,fun i es e=> ?_,(fun p hp=>by cases hp), ?_⟩
 ·rcases get i _ e1 with⟨_,_,z⟩ | z <;> cases z
 ·rcases get i _ e with⟨d',e1,z⟩ | z
  ·cases z;obtain⟨v,q1,q2⟩:=h.get e1;have hi:i < vs.length:=(aB.mp q1).1;refine⟨v, ?_,q2.less fun a z=> ?_⟩
   ·unfold L2.start;rw [cS (by simpa using hi),aA,q1];rfl
   ·rcases z with z | ⟨j,es,e2,_⟩
    ·exact z
    ·rcases get j _ e2 with⟨_,_,z⟩ | z <;> cases z
  ·cases z
 ·rcases get i _ e with⟨_,_,z⟩ | z <;> cases z
 ·unfold L2.start uh;simp only [aq,ae,jX,hl]
theorem eu(F:ji K x qual st f fd)(S:bM N ps (aL st))(hm:mg x=some (.ref f))(hb:Binds K fd ps [])(hl: ∀i,(args i).length=ps.length)
  (body: ∀(dX:af) (A:bA) (outer:List Env) (s:aj) (H:Hp) (E:XK) (i:ι) (M0:MP),pre i->eW k (A.deeper (mM qual (aL st) s.heap.objs.size f dX))->
   ∃d,res i= .ok d/\WS (pb CX P w K mg base N qual (aL st) f dX A outer s H E).nox M0 H (bo st) (uh N (args i)) {N:=fun _=>d= .non,R:=fun d'=>d'=d}):j6 P w K mg base CX (k+1) x args pre res:=by
 refine⟨f,fd,ps, ?_,hm,F.kp,hb⟩;obtain⟨oc,od,kV,doc,pm,an,dX,ct,vK,rfl,lk,kc⟩:=F.ex;refine zI lk kc S (fun vs H Q E ⟨i,M0,_,h,_⟩=>by rw [h.len,hl]) fun A outer s H vs Q E hr BC=> ?_;obtain⟨i,M0,hM,h,hp,k1,k2⟩:=BC;obtain⟨d,hd,ws⟩:=body dX A outer s H E i M0 hp hr;refine⟨mi _ (bo st),(gr (X:=(pb CX P w K mg base N qual (aL st) f dX A outer s H E).nox)).nox, ?_⟩;refine mi.mono (En:=ends K M0 H [] {N:=fun _=>d= .non,R:=fun d'=>d'=d}) (fun fA H' ⟨α,ρ,R,e⟩=> ?_) (fun v H' ⟨d',e,sm,dn⟩=> ?_) (fun _ _ ⟨_,_,_,z⟩=>z.elim) (fun _ _ ⟨_,_,_,z⟩=>z.elim) (ws [] (fun _=>0) _ H (rep0 hM h))
 ·exact k1 d hd .non H' R.same (by rw [e]; exact rfl)
 ·subst e;exact k1 _ hd v H' sm dn
end
def Nf:D->String
 | .non=>"NoneType"
 | .bl _=>"bool"
 | .int _=>"int"
 | .str _=>"str"
 | .tup _=>"tuple"
 | .lst _=>"list"
 | .ins _ _ _=>""
 | .exc _=>""
 | .dct _ _ _=>""
def pO:D->Bool
 | .ins _ _ _=>false
 | .exc _=>false
 | .dct _ _ _=>false
 | _=>true
def qQ(T:String)(d:D):Bool:=Nf d==T || (T=="int"&&Nf d=="bool")
section
variable {K:Frag}
theorem NY{d:D}{T:String}(hp:pO d=true)(hT:T="int"\/T="bool"\/T="str"\/T="tuple"\/T="list"):PySem.W.kitOne K (.type (Nf d)) (.type T)=some (qQ T d):=by
 rcases hT with rfl | rfl | rfl | rfl | rfl <;> cases d <;> first | rfl | (cases hp)
end
section
variable {X:Cx}{ρ:fB}{M0:MP}{H0:Hp}{P:pJ}{e a b:Expr}{es:List Expr}{d:D}{ds:List D}{pos p p2:Pos}
theorem OP{pins:List (ai×Obj)}{σ:St}{H:Hp}{s:aj}{M:MP}{v:V}{u c:af}{r:Bool}{Q:af->aj->Prop}{E:af->aj->Prop}{A:bA}(I:Inv X pins σ H s)(h:qF X.K M H d v)(rv:RelV v u)(hp:pO d=true)
  (e:PySem.W.kitOne X.K (.type (Nf d)) c=some r)(k: ∀tk,Q (.bool r) {s with toks:=tk}):av (aC X.prog X.w) A (call (.builtin "isinstance") [u,c]) Q E s:=by
 cases d with
 | non=>cases (show v= .non from h); cases (show u=bD from rv); exact kO PySem.W.kitx_none I.kIn cB e (fun z=>nomatch z) k
 | bl y=>cases (show v= .bl y from h); cases (show u=gf y from rv); exact kO PySem.W.kitx_bool I.kIn cB e (fun z=>nomatch z) k
 | int i=>cases (show v= .int i from h); obtain⟨t,q⟩:=(show ∃t,u=gR i t from rv); cases q; exact kO PySem.W.kitx_int I.kIn cB e (fun z=>nomatch z) k
 | str y=>cases (show v= .str y from h); obtain⟨t,q⟩:=(show ∃t,u=BD y t from rv); cases q; exact kO PySem.W.kitx_str I.kIn cB e (fun z=>nomatch z) k
 | tup ds=>
  obtain⟨a,xs,rfl,sq,_⟩:=h;cases (show u=au a from rv);obtain⟨its,_,⟨o,h1,h2,_⟩,_⟩:=I.tuple sq;exact kO PySem.W.kitx_tuple I.kIn ⟨o,h1,h2⟩ e (fun z=>nomatch z) k
 | lst ds=>
  obtain⟨a,xs,rfl,sq,_⟩:=h;cases (show u=au a from rv);obtain⟨its,_,⟨o,n,h1,h2,_⟩,_⟩:=I.list sq;exact kO PySem.W.kitx_list I.kIn ⟨o,h1,h2⟩ e (fun z=>nomatch z) k
 | _=>cases hp
theorem L8{pins:List (ai×Obj)}{σ:St}{H:Hp}{s:aj}{M:MP}{v:V}{u:af}{tp:ai}{dd:Option ai}{its:List af}{n:Nat}{sl:Array (Option af)}{r:Bool}{Q:af->aj->Prop}{E:af->aj->Prop}{A:bA}(I:Inv X pins σ H s)(h:qF X.K M H d v)(rv:RelV v u)(hp:pO d=true)
  (ht:s.heap.get? tp=some ⟨.type "tuple",dd, .seq its.toArray n,sl⟩)(e:PySem.W.kitAny X.K (.type (Nf d)) its=some r)(k: ∀tk,Q (.bool r) {s with toks:=tk}):av (aC X.prog X.w) A (call (.builtin "isinstance") [u, .ref tp]) Q E s:=by
 cases d with
 | non=>cases (show v= .non from h); cases (show u=bD from rv); exact kP PySem.W.kitx_none I.kIn cB ht e (fun z=>nomatch z) k
 | bl y=>cases (show v= .bl y from h); cases (show u=gf y from rv); exact kP PySem.W.kitx_bool I.kIn cB ht e (fun z=>nomatch z) k
 | int i=>cases (show v= .int i from h); obtain⟨t,q⟩:=(show ∃t,u=gR i t from rv); cases q; exact kP PySem.W.kitx_int I.kIn cB ht e (fun z=>nomatch z) k
 | str y=>cases (show v= .str y from h); obtain⟨t,q⟩:=(show ∃t,u=BD y t from rv); cases q; exact kP PySem.W.kitx_str I.kIn cB ht e (fun z=>nomatch z) k
 | tup ds=>
  obtain⟨a,xs,rfl,sq,_⟩:=h;cases (show u=au a from rv);obtain⟨its,_,⟨o,h1,h2,_⟩,_⟩:=I.tuple sq;exact kP PySem.W.kitx_tuple I.kIn ⟨o,h1,h2⟩ ht e (fun z=>nomatch z) k
 | lst ds=>
  obtain⟨a,xs,rfl,sq,_⟩:=h;cases (show u=au a from rv);obtain⟨its,_,⟨o,n,h1,h2,_⟩,_⟩:=I.list sq;exact kP PySem.W.kitx_list I.kIn ⟨o,h1,h2⟩ ht e (fun z=>nomatch z) k
 | _=>cases hp
def Tj(K:Frag):List V->Hp->VK->Prop:=fun xs H Q=> ∃v T M d,xs= [v, .ty T]/\qF K M H d v/\pO d=true/\(T="int"\/T="bool"\/T="str"\/T="tuple"\/T="list")/\Q (.bl (qQ T d)) H
theorem GD:gW X (.builtin "isinstance") (Tj X.K):=by
 intro pins s σ H xs us Q I r ⟨v,T,M,d,e,h,hp,hT,q⟩;subst e;obtain⟨u,c,rfl,r1,r2⟩:=vals2 r;cases (show c=cK T from r2);exact OP I h r1 hp (NY hp hT) fun tk=>⟨.bl _,H,I.tok tk,rfl,q⟩
theorem ar.nH{T:String}{x:Str}(hg:Gl X "isinstance")(hm:X.mg "isinstance"=none)(Y1:Gl X x)(Zc:X.mg x=none)(hv:eA x=some (.type T))(hT:T="int"\/T="bool"\/T="str"\/T="tuple"\/T="list")(h:kR X ρ e d)(hp:pO d=true)
  (he:ax [e, .Name x p2] X.env=(false,bV e X.env)::ax [.Name x p2] X.env:=by rfl)(si:ax [.Name x p2] X.env= [(false,bV (.Name x p2) X.env)]:=by rfl)(hpl:(fc pos (ax [.Name x p2] X.env)).any (·.1)=false:=by rfl)
  (hn:x≠"__name__":=by decide)(hd:(x==("__debug__":Str))=false:=by decide):ar X ρ (.Call (.Name "isinstance" p) [e, .Name x p2] [] pos) (.bl (qQ T d)):=fun M0 H0 γ α σ H Q R k=>
 (jU GD hg hm boot_isinstance (e_ iE (e_ (ym (v:= .ty T) Y1 Zc hv rfl hn hd) hG si) he) (by decide) (by decide) he hpl).to (h M0 H0 γ α σ H _ R fun v H1 s1 d1=>⟨v,T,_,d,rfl,d1,hp,hT,k _ H1 s1 rfl⟩)
def dN(ns:List Int):Nat:=(firstMet (fun i=>ns.getD i 0) ns.length).length
theorem Fw(hc:X.calm=true):gW X (.type "set") (fun xs H Q=> ∃q ns,xs= [.ref q]/\o6 X.K H q (ns.map V.int)/\ns.length < 4000/\ ∀l S,H l=none->Q (.ref l) (upd H l (.set S (dN ns)))):=by
 intro pins s σ H xs us Q I r ⟨q,ns,e,hq,hl,k⟩;subst e;obtain⟨u,rfl,rx⟩:=vals1 r;cases rx;obtain⟨its,r',pl,hz⟩:=I.list hq;have hlen:=r'.length;rw [ae]at hlen;have e:its.toArray.size=ns.length:=by rw [aD]; exact hlen.symm
 refine PySem.call_set_list (I.ok.hd hc) pl.isList (intsAre_of r') (by rw [e]; unfold scanBound; omega) fun h' tk hS hk=> ?_;rw [e]at hS;exact⟨.ref s.heap.objs.size,_,I.laid (t':=tk) (fun b o e=>hk b o (az e) e) (ay _) (o:= .set _ (dN ns)) hS,rfl,k _ _ I.fresh⟩
theorem Ad:gW X (.builtin "len") (fun xs H Q=> ∃q S n,xs= [.ref q]/\H q=some (.set S n)/\Q (.int n) H):=by
 intro pins s σ H xs us Q I r ⟨q,S,n,e,hq,k⟩;subst e;obtain⟨u,rfl,rx⟩:=vals1 r;cases rx;obtain⟨o,es,ep,t,h1,h2,h3,_,_,h6,h7,h8⟩:=(show s.heap.SetOf (gJ X.prog X.w) q S n from I.fb q _ hq);refine call_len_set h1 h2 h3 h7 (by unfold scanBound at h6; omega) ⟨.int n,H,I.tok _,⟨_,by rw [h8]⟩,k⟩
theorem ar.lenSet{ns:List Int}{p3:Pos}(hc:X.calm=true)(hg:Gl X "len")(hm:X.mg "len"=none)(mK:Gl X "set")(qM:X.mg "set"=none)(h:kR X ρ e (.lst (ns.map .int)))(hl:ns.length < 4000)
  (he:ax [e] X.env= [(false,bV e X.env)]:=by rfl)(si:ax [.Call (.Name "set" p2) [e] [] p3] X.env= [(false,bV (.Call (.Name "set" p2) [e] [] p3) X.env)]:=by rfl):ar X ρ (.Call (.Name "len" p) [.Call (.Name "set" p2) [e] [] p3] [] pos) (.int (dN ns)):=fun M0 H0 γ α σ H Q R k=>
 (jU Ad hg hm PySem.boot_len (e_ (jr (Fw hc) mK qM (by decide +kernel) (e_ iE hG he) (by decide) (by decide) he) hG si) (by decide) (by decide) si).to (h M0 H0 γ α σ H _ R fun v H1 s1 d1=>by
  obtain⟨q,xs,rfl,sq,dn⟩:=d1;rw [dn.ints]at sq;exact⟨q,ns,rfl,sq,hl,fun l S A8=>⟨l,S,_,rfl,bI,k _ _ (s1.trans (bJ A8)) rfl⟩⟩)
theorem Qq(ns:List Int):dN ns<=ns.length:=firstMet_length_le _ _
theorem ER(l:List Int): ∀σ:List Int,σ.Nodup->(∀x∈l,x∈σ->False)->l.Nodup->(l.foldl kg σ).length=σ.length+l.length:=by
 induction l with
 | nil=>intro σ _ _ _; rfl
 | cons a l ih=>
  intro σ h1 h2 h3;rw [eG]at h3;have na:a∉σ:=fun z=>h2 a (.head _) z;rw [wy];have e:kg σ a=σ ++ [a]:=by
   unfold kg;rw [if_neg];simpa using na
  rw [e,ih]
  ·simp only [aq,aK,dI]; omega
  ·rw [jA];exact⟨h1,by simp,fun x hx y hy z=>by rw [aJ.mp hy]at z; exact na (z▸hx)⟩
  ·intro x hx hm
   rcases bO.mp hm with hm | hm
   ·exact h2 x (.tail _ hx) hm
   ·rw [aJ.mp hm]at hx; exact h3.1 hx
  ·exact h3.2
theorem Ic(l:List Int): ∀σ:List Int, ¬(σ ++ l).Nodup->σ.Nodup->(l.foldl kg σ).length < σ.length+l.length:=by
 induction l with
 | nil=>intro σ h1 h2; rw [bz]at h1; exact absurd h2 h1
 | cons a l ih=>
  intro σ h1 h2;rw [wy]
  by_cases ha:a∈σ
  ·have e:kg σ a=σ:=by
    unfold kg;rw [if_pos];simpa using ha
   rw [e];have:=length_foldl_step_dedup_le l σ;rw [aK]; omega
  ·have e:kg σ a=σ ++ [a]:=by
    unfold kg;rw [if_neg];simpa using ha
   rw [e];have:=ih (σ ++ [a]) (by rw [aO]; exact h1) (by
    rw [jA];exact⟨h2,by simp,fun x hx y hy z=>by rw [aJ.mp hy]at z; exact ha (z▸hx)⟩)
   rw [aq,cj]at this;rw [aK]; omega
theorem range_getD(ns:List Int):(bj ns.length).map (fun i=>ns.getD i 0)=ns:=by
 apply e7;intro i;rw [aA]
 by_cases h:i < ns.length
 ·rw [Gk h,ak h];show some (ns.getD i 0)=_;rw [aS,ak h];rfl
 ·rw [bp (by rw [bS]; omega),bp (by omega)];rfl
theorem HF(ns:List Int):dN ns=ns.length↔ns.Nodup:=by
 have e:dN ns=(ns.foldl kg []).length:=by unfold dN firstMet; rw [range_getD]
 rw [e]
 by_cases h:ns.Nodup
 ·exact⟨fun _=>h,fun _=>by rw [ER ns [] qb (fun _ _ z=>by cases z) h]; simp⟩
 ·refine⟨fun z=> ?_,fun z=>absurd z h⟩;have:=Ic ns [] (by simpa using h) qb;simp only [dI,oq]at this;omega
theorem LH:oP X (ku .Add) (QL X.K):=by
 intro pins s σ H x y v u Q I rx ry h;obtain⟨l,b,xs,zs,rfl,rfl,hH,hB,hz,q⟩:=h;cases rx;cases ry;obtain⟨its,r,⟨⟨oc,od,W2,vK⟩,n,e1,ec,ed,NA⟩,_⟩:=I.list hH;obtain⟨iI,r2,⟨⟨oc2,od2,ZR,Vx⟩,n2,e2,WZ,Xt,Ra⟩,_⟩:=I.list hB;have hl:=r.length;have zb:=r2.length;simp only at ec ed NA WZ Xt Ra;subst ec ed NA WZ Xt Ra;refine C3 ⟨_,e1,rfl⟩ ⟨_,e2,rfl⟩ noFill_list_add seq_list_add F.slot_list_add F.entry_list_add (F.args_list_add_2 _ _) (Ff l b its.toArray iI.toArray n n2 none none vK Vx (by rw [aD,aD]; omega)) ⟨e1,e2, ?_⟩;have ea:its.toArray ++ iI.toArray=(its ++ iI).toArray:=by simp
 rw [ea];exact⟨.ref _,_,I.lnew (t':=s.toks) (r.append r2) (by rw [aq]; omega),rfl,q _ I.fresh⟩
theorem dF.cat{fs:List D}(ha:kR X ρ a (.lst ds))(hb:kR X ρ b (.lst fs))(hl:ds.length+fs.length<=1000000):dF X ρ (.BinOp a .Add b pos) (ds ++ fs):=fun M0 H0 γ α σ H Q R k=>
 (Jh LH iE iE).to (ha M0 H0 γ α σ H _ R fun v H1 s1 d1=>hb M0 H0 γ α σ H1 _ (R.next s1) fun u H2 s2 d2=>by
  obtain⟨q,xs,rfl,sq,dn⟩:=d1.same s2;obtain⟨q2,SD,rfl,PX,Gg⟩:=d2;exact⟨q,q2,xs,SD,rfl,rfl,sq,PX,by rw [dn.len,Gg.len]; exact kr hl,fun l A8=>k l _ H2 _ (s1.trans s2) A8 (bJ A8) bI ((qo A8 (cU.app dn Gg)).same (bJ A8))⟩)
theorem W1.popAt{i j:Nat}{x y:Str}{k:Int}{n:Nat}{p1 p3 p4:Pos}(hN:X.N.Nodup)(hi:X.N[i]? =some x)(hv:yn X.env.scope x)(qT:ρ[i]? =some (.mu ds))(hj:X.N[j]? =some y)(hy:Loc X.env.scope y)(fj:j < ρ.length)(kS:j≠i)(h:ar X ρ e (.int k))
  (hk:k=(n:Int))(hn:ds[n]? =some d)(Eh:n < 1000000)(q:P.N ((ρ.set i (.mu (ds.eraseIdx n))).set j (.im d)))
  (mc:N7 X (.Name x p1) "pop" e p2 p3)(hd:(x==("__debug__":Str))=false:=by decide)(kc:(x==("__classdict__":Str))=false:=by decide)
  (hs:cu (.Call (.Attribute (.Name x p1) "pop" p2) [e] [] p3) (some (.Name y p4)) pos.line X.env=pure false:=by rfl)(hf:X.fn y=true\/X.env.scope.names.lookup y=some .local:=by first | exact .inl rfl | exact .inr rfl | assumption):
  W1 X M0 H0 (.Assign [.Name y p4] (.Call (.Attribute (.Name x p1) "pop" p2) [e] [] p3) pos) ρ P:=fun γ α σ H R=>by
 obtain⟨m1,m2,m3,m4⟩:=mc;obtain⟨a1,a2,xs,a3,a4⟩:=R.mu i ds qT;refine(nB hN hj hy (DF jg PySem.F.slot_list_pop PySem.F.type_list_pop IG (lC hi hv hd kc) xV m1 m2 m3 m4 rfl) hs hf).to ?_;refine⟨_,a2, .inl ⟨rfl,_,o6.of a3⟩,(aU.cons h aU.nil m4) M0 H0 γ α σ H _ R fun vs H1 s y1=> ?_⟩;obtain⟨v,r,rfl,e1,e2⟩:=y1;cases e2;cases (show v= .int k from e1);subst hk;obtain⟨u,hu,du⟩:=(a4.same s).get hn;have hlen:=a4.len;have hnl:n < xs.length:=(aB.mp hu).1;have R1:=(R.next s).upd_mu qT ((a4.same s).erase n);refine⟨α i,xs,(n:Int),n,u,rfl,rfl,s _ _ a3,by omega,by omega,(tH (by unfold Ji; rw [if_pos (by omega),if_pos (by omega)]; simp)).1,hu,α,_,R1.set_im (by rw [bF]; exact fj) ?_,q⟩;have kp:q8 (MM M0 ρ α) H1 (upd H1 (α i) (.lst (xs.eraseIdx n))):=fun b o e n'=>by
  by_cases hb:b=α i
  ·subst hb;rw [s _ _ a3]at e; cases e;exact absurd (.inr ⟨i,ds,qT,rfl⟩) (n' _ rfl)
  ·rw [b8 hb]; exact e
 refine(du.keep kp).less fun a z=> ?_
 rcases z with z | ⟨l,es,e,z⟩
 ·exact .inl z
 ·rcases get_set e with⟨rfl,_⟩ | ⟨_,q⟩
  ·exact .inr ⟨l,ds,qT,z⟩
  ·exact .inr ⟨l,es,q,z⟩
theorem W1.setIx{i n:Nat}{x:Str}{k:Int}{p1 p3:Pos}(hi:X.N[i]? =some x)(hv:yn X.env.scope x)(qT:ρ[i]? =some (.mu ds))(h:ar X ρ e d)(hb:ar X ρ b (.int k))(hk:k=(n:Int))(hn:n < ds.length)(q:P.N (ρ.set i (.mu (ds.set n d))))
  (hd:(x==("__debug__":Str))=false:=by decide)(kc:(x==("__classdict__":Str))=false:=by decide)
  (hs:swapsWithSole [.Subscript (.Name x p1) b p3] e pos.line X.env=pure false:=by rfl)(hw:swappedStores [.Subscript (.Name x p1) b p3] e X.env=pure none:=by rfl)
  (h1:(assignEach [.Subscript (.Name x p1) b p3] X.env).map (·.2)= [lL (.Subscript (.Name x p1) b p3) X.env]:=by rfl)
  (ha: ∀v,lL (.Subscript (.Name x p1) b p3) X.env v=(do
   let ov<-kX [v] (bV (.Name x p1) X.env)
   let iv<-kX [v,ov] (bV b X.env)
   standAt p3
   kX [v,ov,iv] (setItem ov iv v)
   release [v,ov,iv] []):=by intro _; rfl):
  W1 X M0 H0 (.Assign [.Subscript (.Name x p1) b p3] e pos) ρ P:=fun γ α σ H R=>by
 obtain⟨a1,a2,xs,a3,a4⟩:=R.mu i ds qT;refine(Oj iE (OM (lC hi hv hd kc) iE set_list ha) hs hw h1).to (h M0 H0 γ α σ H _ R fun v H1 s1 d1=>⟨_,a2,hb M0 H0 γ α σ H1 _ (R.next s1) fun u H2 s2 d2=> ?_⟩);cases (show u= .int k from d2);subst hk;have hl:=a4.len;refine⟨α i,xs,(n:Int),n,rfl,rfl,s2 _ _ (s1 _ _ a3),by unfold Ji; rw [if_pos (by omega),if_pos (by omega)]; simp,α,_,((R.next s1).next s2).upd_mu qT ?_,q⟩;exact cU.set (d1.same s2) n ((a4.same s1).same s2)
theorem W1.extend{i:Nat}{x:Str}{p1 p3:Pos}{fs:List D}(hi:X.N[i]? =some x)(hv:yn X.env.scope x)(qT:ρ[i]? =some (.mu ds))(h:ar X ρ e d)(hq:wX d fs)(hl:ds.length+fs.length<=1000000)(q:P.N (ρ.set i (.mu (ds ++ fs))))
  (mc:N7 X (.Name x p1) "extend" e p2 p3)(hd:(x==("__debug__":Str))=false:=by decide)(kc:(x==("__classdict__":Str))=false:=by decide)(CV:cu (.Call (.Attribute (.Name x p1) "extend" p2) [e] [] p3) none pos.line X.env=pure false:=by rfl):
  W1 X M0 H0 (.Expr (.Call (.Attribute (.Name x p1) "extend" p2) [e] [] p3) pos) ρ P:=
 W1.mt1 jg PySem.F.slot_list_extend PySem.F.type_list_extend Mh hi hv qT h (fun M H l xs v Q a b c k=>by
  obtain⟨q1,ys,rfl,sq,dn⟩:=xD hq c.t;exact⟨l,q1,xs,ys,rfl,rfl,a,sq,by rw [b.len,dn.len]; exact kr hl,k _ _ (cU.app b dn)⟩) q mc hd kc CV
end
def An(t:Bool)(ds:List D):D:=if t then .tup ds else .lst ds
section
variable {X:Cx}{ρ:fB}{e a b tg:Expr}{d:D}{ds:List D}{pos p:Pos}{t:Bool}
theorem HR(t:Bool)(ds:List D):wX (An t ds) ds:=by cases t <;> rfl
theorem ar.lenS(hg:Gl X "len")(hm:X.mg "len"=none)(h:ar X ρ e (An t ds))(he:ax [e] X.env= [(false,bV e X.env)]:=by rfl):ar X ρ (.Call (.Name "len" p) [e] [] pos) (.int ds.length):=ar.len hg hm h.r (HR t ds) he
theorem dF.listS(hg:Gl X "list")(hm:X.mg "list"=none)(h:ar X ρ e (An t ds))(he:ax [e] X.env= [(false,bV e X.env)]:=by rfl):dF X ρ (.Call (.Name "list" p) [e] [] pos) ds:=dF.list hg hm (by decide +kernel) h.r (HR t ds) he
theorem ar.tupleS(hg:Gl X "tuple")(hm:X.mg "tuple"=none)(h:ar X ρ e (An t ds))(he:ax [e] X.env= [(false,bV e X.env)]:=by rfl):ar X ρ (.Call (.Name "tuple" p) [e] [] pos) (.tup ds):=ar.tuple hg hm (by decide +kernel) h.r (HR t ds) he
theorem ar.ixS{k:Int}(ha:ar X ρ a (An t ds))(hb:ar X ρ b (.int k))(hk:vY ds k=some d)(hs:qA b:=by intro _ _; rfl):ar X ρ (.Subscript a b pos) d:=by
 cases t with
 | true=>exact ar.ixT ha hb hk hs
 | false=>exact ar.ixL ha.r hb hk hs
theorem iU.seq(h:ar X ρ e (An t ds)):iU X ρ tg e ds:=by
 cases t with
 | true=>exact iU.tup h
 | false=>exact iU.list h
end
theorem xO{scope:iF}{env:Env}(h: ∀y∈scope.names,y.2≠ .free):(qj scope env).names=scope.names:=by
 unfold qj;dsimp only;have: ∀l:List (Str×kx),(∀y∈l,y.2≠ .free)->(l.map fun(n,k)=>if(k==Bg&&env.scope.kind== .function&&env.kindOf n==some .cell)then(n,NameKind.cell)else(n,k))=l:=by
  intro l
  induction l with
  | nil=>intro _; rfl
  | cons y l ih=>
   intro hl;obtain⟨n,k⟩:=y;rw [a9,ih fun z hz=>hl z (.tail _ hz)];have hk:(k==Bg)=false:=by
    have:=hl (n,k) (.head _);cases k <;> first | rfl | exact absurd rfl this
   simp [hk]
 exact this _ h
theorem dU.closed{X:Cx}{scope:iF}{x:Str}(hf: ∀y∈scope.names,y.2≠ .free)(hc: ∀y∈scope.names,y.2≠ .cell)(hk:scope.kind= .function)(hn: ∀y∈scope.names,y.2= .local->scope.names.lookup y.1=some .local)(ho:scope.names.lookup x=some .local):
  dU X [x] [] scope x [] where
 Ci:=closureFor_none hf
 cell:=hc
 kind:=hk
 names:=hn
 own:=ho
 hN:=⟨[],rfl,rfl,fun i y j h=>by simp at h⟩
 sub:=fun y c h=>by simp at h
 has:=fun y h=>by
  rw [xO hf]at h
  rcases h with h | h
  ·exact absurd rfl (hc _ (cX h))
  ·exact absurd rfl (hf _ (cX h))
theorem rh{ρ:fB}:vV ρ [] []:=⟨rfl,fun k j c h=>by simp at h⟩
theorem iU.to{X:Cx}{ρ:fB}{tg e:Expr}{ds W6:List D}(h:iU X ρ tg e ds)(q:ds=W6):iU X ρ tg e W6:=q▸h
section
variable {X:Cx}{ρ:fB}{x:Str}{d:D}{ds:List D}{pos:Pos}
theorem fz{i:Nat}{ρ:fB}(h:Nat.ble (i+1) ρ.length=true):i < ρ.length:=Ep h
theorem nm(i:Nat)(hN:X.N[i]? =some x)(qT:ρ[i]? =some (.im d))(hv:yn X.env.scope x:=by first | exact Or.inl rfl | exact Or.inr (Or.inl rfl) | exact Or.inr (Or.inr rfl))(hd:(x==("__debug__":Str))=false:=by decide)(kc:(x==("__classdict__":Str))=false:=by decide):ar X ρ (.Name x pos) d:=ar.name i hN hv qT hd kc
theorem zr(i:Nat)(hN:X.N[i]? =some x)(qT:ρ[i]? =some (.mu ds))(hv:yn X.env.scope x:=by first | exact Or.inl rfl | exact Or.inr (Or.inl rfl) | exact Or.inr (Or.inr rfl))(hd:(x==("__debug__":Str))=false:=by decide)(kc:(x==("__classdict__":Str))=false:=by decide):kR X ρ (.Name x pos) (.lst ds):=kR.name i hN hv qT hd kc
theorem gE{lo:Int}{n i:Nat}{d:D}(h:(jV lo n)[i]? =some d):d= .int (lo+(i:Int))/\i < n:=by
 unfold jV at h;rw [aA]at h;cases e:(bj n)[i]? with
 | none=>rw [e]at h; cases h
 | some j=>
  rw [e]at h;obtain⟨h1,h2⟩:=aB.mp e;rw [bS]at h1;rw [Kp]at h2;subst h2;exact⟨(aF h).symm,h1⟩
theorem f_{lo:Int}{n:Nat}:(jV lo n).length=n:=by unfold jV; rw [ae,bS]
end
end Z
namespace K
open PySem L2 Z
abbrev St:=L2.St
def top(i:Nat):cF:=PySem.Challenge.pw_cranefloor_k06_whole_a_plan.main.body.getD i (.Pass ⟨0,0,0,0⟩)
abbrev Hl:cF:=top 41
abbrev B3:cF:=top 43
abbrev Je:cF:=top 44
abbrev oz:cF:=top 45
abbrev sM:cF:=top 17
abbrev mC:cF:=top 18
abbrev tZ:cF:=top 19
abbrev CD:cF:=top 20
abbrev CB:cF:=top 21
abbrev yD:cF:=top 22
abbrev qr:cF:=top 28
abbrev LN:cF:=top 27
abbrev yk:cF:=top 29
abbrev x3:cF:=top 26
abbrev qG:cF:=top 25
abbrev uL:cF:=top 24
abbrev Cm:cF:=top 42
abbrev xT:cF:=top 48
abbrev sU:cF:=top 49
abbrev sT:cF:=top 51
abbrev Mg:cF:=top 56
abbrev oM:cF:=top 36
abbrev nP:cF:=top 35
abbrev uq:cF:=top 37
abbrev HK:cF:=top 38
abbrev tP:cF:=top 39
abbrev mG:cF:=top 32
abbrev kH:cF:=top 33
abbrev mX:cF:=top 34
abbrev sR:cF:=top 46
abbrev oK:cF:=top 47
abbrev yH:cF:=top 50
abbrev sS:cF:=top 52
abbrev xj:cF:=top 53
abbrev xX:cF:=top 54
abbrev x_:cF:=top 55
structure Bn(mg:Str->Option af):Prop where
 len:mg "len"=none
 range:mg "range"=none
 list:mg "list"=none
 tuple:mg "tuple"=none
 set:mg "set"=none
def NX(CX:k_):Prop:= ∀l H s e s',CX l H s E0 e s'->False
theorem aP{CX:k_}{X:Cx}(h:NX CX):Passes CX X E0:=fun _ _ H s e s' _ z=>(h _ H s e s' z).elim
def cellAt(ns:List Int)(k:Nat):Int:=ns.getD k 0
def pD(p:Int×Int):D:= .tup [.int p.1, .int p.2]
structure c5 where
 st:Int
 ht:Int
 lf:Int
 fK:List (Int×Int)
def c5.d(f:c5):D:= .tup [.int f.st, .int f.ht, .int f.lf, .lst (f.fK.map pD)]
def gP(ns:List Int)(first most:Nat):Nat->List (Int×Int)
 | 0=> []
 | k+1=>
  let p:=cellAt ns (first+1+k)
  if p % most=p / most % most then gP ns first most k else gP ns first most k ++ [(p % most,p / most % most)]
def u4(ns:List Int)(first most:Nat):c5:=
 let c:=cellAt ns first
 ⟨2+c % 3,1+c / 3 % 6,1+c / 18 % 3,gP ns first most (c / 72 % 5).toNat⟩
theorem nD(ns:List Int)(first most:Nat): ∀k,(gP ns first most k).length<=k
 | 0=>ay _
 | k+1=>by
  have:=nD ns first most k;unfold gP;dsimp only
  split
  ·omega
  ·rw [aq,cj]; omega
section
variable {P:aH}{w:aW}{K:Frag}{mg:Str->Option af}{base:aY}{CX:k_}
theorem NW:bM ["script","k"] ["script","k"] (aL Hl):=l8
variable (P w K mg base CX)in
abbrev wL:Prop:=
 j6 P w K mg base CX 1 "_law_cell_at" (fun i:List Int×Nat=> [.lst (i.1.map .int), .int i.2]) (fun _=>True) (fun i=> .ok (.int (cellAt i.1 i.2)))
theorem Ll{f:ai}{fd:bb}(B:Bn mg)(F:ji K "_law_cell_at" "_law_cell_at" Hl f fd)(hm:mg "_law_cell_at"=some (.ref f))(hb:Binds K fd ["script","k"] []):wL P w K mg base CX:=by
 refine eu F NW hm hb (fun i=>rfl) fun dX A outer s H E i M0 hp hr=>⟨_,rfl, ?_⟩;obtain⟨ns,k⟩:=i;refine WS.cons (W1.ite (cg.cI .lt (ar.name 1 rfl (.inl rfl) rfl) (ar.lenL rfl B.len (ar.name 0 rfl (.inl rfl) rfl).r)) (fun h=> ?_) fun h=> ?_)
 ·have h':(k:Int) < ns.length:=by simpa using of_decide_eq_true h
  have hk:k < ns.length:=by omega
  refine WS.one (W1.ret (ar.ixL (ar.name 0 rfl (.inl rfl) rfl).r (ar.name 1 rfl (.inl rfl) rfl) (d:= .int (cellAt ns k)) ?_) rfl);rw [sN,pM rfl hk];show some (D.int ns[k])=some (D.int (ns.getD k 0));rw [aS,ak hk];rfl
 ·refine WS.nil (WS.one (W1.ret ar.int ?_));have h': ¬(k:Int) < ns.length:=by simpa using of_decide_eq_false h
  show D.int 0=D.int (ns.getD k 0);rw [aS,bp (by omega)];rfl
theorem DA:bM ["script","first","most","cell","bans","k","pair","one","other"] ["script","first","most"] (aL B3):=l8
variable (P w K mg base CX)in
abbrev BS:Prop:=
 j6 P w K mg base CX 2 "_law_floor" (fun i:List Int×Nat×Nat=> [.lst (i.1.map .int), .int i.2.1, .int i.2.2]) (fun i=>0 < i.2.2/\i.2.2 < 1000) (fun i=> .ok (u4 i.1 i.2.1 i.2.2).d)
theorem IM{f:ai}{fd:bb}(nx:NX CX)(B:Bn mg)(G1:wL P w K mg base CX)(F:ji K "_law_floor" "_law_floor" B3 f fd)(hm:mg "_law_floor"=some (.ref f))(hb:Binds K fd ["script","first","most"] []):BS P w K mg base CX:=by
 refine eu F DA hm hb (fun i=>rfl) fun dX A outer s H E i M0 hp hr=>⟨_,rfl, ?_⟩;obtain⟨ns,first,most⟩:=i;obtain⟨Np,Kg⟩:0 < most/\most < 1000:=hp;have px:=DA.nd;refine WS.cons (W1.set (i:=3) px rfl (.inl rfl) (fz rfl) (ar.call G1 hr (aP nx) rfl (ns,first) (aU.cons (nm 0 rfl rfl) (aU.cons (nm 1 rfl rfl) aU.nil)) trivial rfl) ?_);refine WS.cons (W1.setF (i:=4) px rfl (.inl rfl) (fz rfl) (dF.lst aU.nil) ?_);refine WS.cons (W1.for (ds:=jV 0 (cellAt ns first / 72 % 5).toNat) (fun i ρ=> ∃a b c d,ρ= [.im (.lst (ns.map .int)), .im (.int first), .im (.int most), .im (.int (cellAt ns first)), .mu ((gP ns first most i).map pD),a,b,c,d]) bu rfl
  (iU.range rfl B.range (ar.mod (ar.fdiv (nm 3 rfl rfl) ar.int ⟨by decide,by decide⟩) ar.int (by decide)) (by omega)) ⟨_,_,_,_,rfl⟩ ?_ ?_)
 ·rintro i d ρ hd ⟨a,b,c,d',rfl⟩;obtain⟨rfl,hi⟩:=gE hd;have hlen:=nD ns first most i;refine⟨_,sW.name (i:=5) px rfl (.inl rfl) (fz rfl), ?_⟩;have e1:(first:Int)+1+(0+(i:Int))=((first+1+i:Nat):Int):=by omega
  refine WS.cons (W1.set (i:=6) px rfl (.inl rfl) (fz rfl) (ar.call G1 hr (aP nx) rfl (ns,first+1+i) (aU.cons (nm 0 rfl rfl) (aU.cons ((ar.add (ar.add (nm 1 rfl rfl) ar.int) (nm 5 rfl rfl)).to (by rw [e1])) aU.nil)) trivial rfl) ?_);refine WS.cons (W1.set (i:=7) px rfl (.inl rfl) (fz rfl) (ar.mod (nm 6 rfl rfl) (nm 2 rfl rfl) (by omega)) ?_);refine WS.cons (W1.set (i:=8) px rfl (.inl rfl) (fz rfl) (ar.mod (ar.fdiv (nm 6 rfl rfl) (nm 2 rfl rfl) ⟨by omega,by omega⟩) (nm 2 rfl rfl) (by omega)) ?_);refine WS.one (W1.ite (cg.cI .ne (nm 7 rfl rfl) (nm 8 rfl rfl)) (fun h=> ?_) fun h=> ?_)
  ·refine WS.one (W1.append (i:=4) rfl (.inl rfl) rfl (ar.tup (aU.cons (nm 7 rfl rfl) (aU.cons (nm 8 rfl rfl) aU.nil))) (by rw [ae]; omega) ?_ ⟨rfl,rfl,rfl,rfl⟩);have ja: ¬cellAt ns (first+1+i) % most=cellAt ns (first+1+i) / most % most:=by simpa using h
   have hB:gP ns first most (i+1)=gP ns first most i ++ [(cellAt ns (first+1+i) % most,cellAt ns (first+1+i) / most % most)]:=by
    rw [gP]; exact if_neg ja
   dsimp only;rw [hB,bw];exact⟨_,_,_,_,rfl⟩
  ·have he:cellAt ns (first+1+i) % most=cellAt ns (first+1+i) / most % most:=by simpa using h
   have hB:gP ns first most (i+1)=gP ns first most i:=by
    rw [gP]; exact if_pos he
   refine WS.nil ?_;dsimp only;rw [hB];exact⟨_,_,_,_,rfl⟩
 ·rintro ρ ⟨a,b,c,d,rfl⟩;rw [f_];refine WS.freeze (i:=4) rfl (WS.one (W1.ret (ar.tup (aU.cons (ar.add ar.int (ar.mod (nm 3 rfl rfl) ar.int (by decide))) (aU.cons (ar.add ar.int (ar.mod (ar.fdiv (nm 3 rfl rfl) ar.int ⟨by decide,by decide⟩) ar.int (by decide)))
   (aU.cons (ar.add ar.int (ar.mod (ar.fdiv (nm 3 rfl rfl) ar.int ⟨by decide,by decide⟩) ar.int (by decide))) (aU.cons (nm 4 rfl rfl) aU.nil))))) rfl))
def x9(f:c5)(r:List Int)(k:Nat):Bool:=(decide (0<=r.getD k 0)&&decide (r.getD k 0<=9))&& !(decide (0 < k)&&decide ((r.getD k 0,r.getD (k - 1) 0)∈f.fK))
def jL(f:c5)(r:List Int):Bool:=decide ((r.length:Int)<=f.ht)&&(bj r.length).all (x9 f r)
def good(f:c5)(rows:List (List Int)):Bool:=(decide ((rows.length:Int)=f.st)&&decide rows.flatten.Nodup)&&rows.all (jL f)
theorem pN{k:Nat}{A:bA}(hr:eW k A):A.units+65 < cLine:=by have:=hr.un; omega
theorem lX{r:List Int}{k:Nat}{z:Int}(h:k < r.length)(e:z=(k:Int)):vY (r.map D.int) z=some (.int (r.getD k 0)):=by
 rw [sN,pM e h,aS,ak h];rfl
theorem rf(p:Int×Int)(bs:List (Int×Int)):inD (pD p) (bs.map pD)=decide (p∈bs):=by
 induction bs with
 | nil=>rfl
 | cons b bs ih=>
  show(D.eqv (pD b) (pD p) || inD (pD p) (bs.map pD))=_;rw [ih];have e:D.eqv (pD b) (pD p)=decide (p=b):=by
   obtain⟨b1,b2⟩:=b;obtain⟨p1,p2⟩:=p;simp only [D.eqv,pD,D.pd,D.pds,hW,dY,gS]
   by_cases h:p1=b1/\p2=b2
   ·obtain⟨rfl,rfl⟩:=h; simp
   ·rw [decide_eq_false (by simpa using h)];simp only [jY,beq_eq_false_iff_ne]
    by_cases h1:p1=b1
    ·exact .inr fun z=>h ⟨h1,z.symm⟩
    ·exact .inl fun z=>h1 z.symm
  rw [e]
  by_cases h:p=b <;> simp [h]
theorem xK(n:Nat)(p:Int×Int):D.flat (n+1) (pD p):=by
 intro d hd
 rcases aV.mp hd with rfl | hd
 ·cases n <;> exact trivial
 ·rw [aJ.mp hd]; cases n <;> exact trivial
theorem AA{n:Nat}{bs:List (Int×Int)}: ∀d∈bs.map pD,D.flat (n+1) d:=fun d hd=>by
 obtain⟨p,_,rfl⟩:=aE.mp hd;exact xK n p
def bt(t:Bool)(rows:List (List Int)):List D:=rows.map fun r=>An t (r.map .int)
theorem Hq:bM ["floor","standing","crates","stack","k"] ["floor","standing"] (aL Je):=l8
variable (P w K mg base CX)in
abbrev zk:Prop:=
 j6 P w K mg base CX 1 "_law_good" (fun i:c5×Bool×List (List Int)=> [i.1.d,An i.2.1 (bt i.2.1 i.2.2)]) (fun i=>i.2.2.flatten.length < 4000/\i.2.2.length < 4000) (fun i=> .ok (.bl (good i.1 i.2.2)))
theorem mx{rows:List (List Int)}{r:List Int}(h:r∈rows):r.length<=rows.flatten.length:=by
 induction rows with
 | nil=>cases h
 | cons a rows ih=>
  rw [cO,aq]
  rcases aV.mp h with rfl | h
  ·omega
  ·have:=ih h; omega
theorem oU{rows:List (List Int)}{i:Nat}{r:List Int}(h:rows[i]? =some r):(rows.take (i+1)).flatten=(rows.take i).flatten ++ r:=by
 rw [di,h,Gm];simp
theorem jI(rows:List (List Int))(i:Nat):(rows.take i).flatten.length<=rows.flatten.length:=by
 have e:rows.flatten=(rows.take i).flatten ++ (rows.drop i).flatten:=by rw [<-Gm,ba]
 rw [e,aq]; omega
theorem fG{t:Bool}{rows:List (List Int)}{i:Nat}{d:D}(h:(bt t rows)[i]? =some d): ∃r,rows[i]? =some r/\d=An t (r.map .int):=by
 unfold bt at h;rw [aA]at h;cases e:rows[i]? with
 | none=>rw [e]at h; cases h
 | some r=>rw [e]at h; exact⟨r,rfl,(aF h).symm⟩
theorem L_{f:ai}{fd:bb}(nx:NX CX)(B:Bn mg)(F:ji K "_law_good" "_law_good" Je f fd)(hm:mg "_law_good"=some (.ref f))(hb:Binds K fd ["floor","standing"] []):zk P w K mg base CX:=by
 refine eu F Hq hm hb (fun i=>rfl) fun dX A outer s H E i M0 hp hr=>⟨_,rfl, ?_⟩;obtain⟨fl,t,rows⟩:=i;obtain⟨Np,Kg⟩:rows.flatten.length < 4000/\rows.length < 4000:=hp;have px:=Hq.nd;have hlen:(bt t rows).length=rows.length:=ae ..;refine WS.cons (W1.setF (i:=2) px rfl (.inl rfl) (fz rfl) (dF.lst aU.nil) ?_);refine WS.cons (W1.for (ds:=bt t rows) (fun i ρ=> ∃a b,ρ= [.im fl.d, .im (An t (bt t rows)), .mu ((rows.take i).flatten.map .int),a,b]) bu rfl (iU.seq (nm 1 rfl rfl)) ⟨_,_,by rw [h_]; rfl⟩ ?_ ?_)
 ·rintro i d ρ hd ⟨a,b,rfl⟩;obtain⟨r,pF,rfl⟩:=fG hd;have l1:=jI rows i;have l2:=mx (aR pF);refine⟨_,sW.name (i:=3) px rfl (.inl rfl) (fz rfl), ?_⟩;refine WS.one (W1.extend (i:=2) (fs:=r.map .int) rfl (.inl rfl) rfl (dF.toD (dF.listS rfl B.list (nm 3 rfl rfl))) rfl (by rw [ae,ae]; omega) ?_ ⟨rfl,rfl,rfl,rfl⟩);dsimp only;rw [oU pF,bw];exact⟨_,_,rfl⟩
 rintro ρ ⟨a,b,rfl⟩;rw [hlen,df];refine WS.cons (W1.ite (fk.t (fk.or (cg.cI .ne (ar.lenS rfl B.len (nm 1 rfl rfl)) (ar.ixT (nm 0 rfl rfl) ar.int rfl)) fun _=>fk.or1 (cg.cI .lt (ar.lenSet rfl rfl B.len rfl B.set (zr 2 rfl rfl) Np) (ar.lenL rfl B.len (zr 2 rfl rfl))))) (fun h=> ?_) fun h=> ?_)
 ·refine WS.one (W1.ret ar.bl ?_);rw [hlen,ae]at h;have:good fl rows=false:=by
   unfold good
   by_cases h1:(rows.length:Int)=fl.st
   ·have h2: ¬rows.flatten.Nodup:=fun z=>by
     rw [decide_eq_true h1,dZ,Bool.false_or,(HF _).mpr z]at h;have:=of_decide_eq_true h;omega
    rw [decide_eq_false h2,lM,fC]
   ·rw [decide_eq_false h1,fC,fC]
  show D.bl false=D.bl (good fl rows);rw [this]
 refine WS.nil ?_;rw [hlen,ae,FT]at h;have g1:(rows.length:Int)=fl.st:=by simpa using h.1
 have g2:rows.flatten.Nodup:=(HF _).mp (by
  have h2:=of_decide_eq_false h.2;have:=Qq rows.flatten;omega)
 refine WS.cons (W1.for (ds:=bt t rows) (fun i ρ=>(rows.take i).all (jL fl)=true/\ ∃a b,ρ= [.im fl.d, .im (An t (bt t rows)), .mu (rows.flatten.map .int),a,b]) bu rfl (iU.seq (nm 1 rfl rfl)) ⟨by rw [h_]; rfl,_,_,rfl⟩ ?_ ?_)
 ·rintro i d ρ hd ⟨mf,a,b,rfl⟩;obtain⟨r,pF,rfl⟩:=fG hd;have l2:=mx (aR pF);have bad:jL fl r=false->good fl rows=false:=fun hf=>by
   unfold good;have:rows.all (jL fl)=false:=by
    rw [KS];exact⟨r,aR pF,by rw [hf]; exact aG⟩
   rw [this,lM]
  refine⟨_,sW.name (i:=3) px rfl (.inl rfl) (fz rfl), ?_⟩;refine WS.cons (W1.ite (cg.cI .gt (ar.lenS rfl B.len (nm 3 rfl rfl)) (ar.ixT (nm 0 rfl rfl) ar.int rfl)) (fun h3=> ?_) fun h3=>WS.nil ?_)
  ·refine WS.one (W1.ret ar.bl ?_);have h4:=of_decide_eq_true h3;rw [ae]at h4;show D.bl false=D.bl (good fl rows);rw [bad (by unfold jL; rw [decide_eq_false (by omega),fC])]
  have h4:=of_decide_eq_false h3;rw [ae]at h4;refine WS.one (W1.for (ds:=jV 0 r.length) (fun j ρ=>(bj j).all (x9 fl r)=true/\ ∃b,ρ= [.im fl.d, .im (An t (bt t rows)), .mu (rows.flatten.map .int), .im (An t (r.map .int)),b]) bu rfl
   (iU.to (iU.range rfl B.range (ar.lenS rfl B.len (nm 3 rfl rfl)) (by rw [ae]; omega)) (by rw [ae]; rfl)) ⟨rfl,_,rfl⟩ ?_ ?_)
  ·rintro j d ρ hd2 ⟨hall2,b,rfl⟩;obtain⟨rfl,hj⟩:=gE hd2;refine⟨_,sW.name (i:=4) px rfl (.inl rfl) (fz rfl), ?_⟩;have z0:(0:Int)+(j:Int)=(j:Int):=by omega
   refine WS.one (W1.ite (fk.t (fk.or (cg.not (cg.chain .le .le ar.int (ar.ixS (nm 3 rfl rfl) (nm 4 rfl rfl) (lX hj z0)) ar.int)) fun _=>fk.or1 (fk.t (fk.and (cg.cI .gt (nm 4 rfl rfl) ar.int) fun hz=>fk.and1
    (cg.inL (da:=pD (r.getD j 0,r.getD (j - 1) 0)) (ds:=fl.fK.map pD) (pN hr) (ar.r (ar.tup (aU.cons (ar.ixS (nm 3 rfl rfl) (nm 4 rfl rfl) (lX hj z0)) (aU.cons (ar.ixS (nm 3 rfl rfl) (ar.sub (nm 4 rfl rfl) ar.int) (lX (k:=j - 1) (by omega) (by have:=of_decide_eq_true hz; omega))) aU.nil))))
     (ar.r (ar.ixT (nm 0 rfl rfl) ar.int rfl)) (xK 59 _) AA))))) (fun h5=> ?_) fun h5=> ?_)
   ·refine WS.one (W1.ret ar.bl ?_);show D.bl false=D.bl (good fl rows);rw [bad];unfold jL;have:(bj r.length).all (x9 fl r)=false:=by
     rw [KS];refine⟨j,cy.mpr hj, ?_⟩;unfold x9;rw [rf,z0]at h5;simp only [Bool.or_eq_true,g6,bN,decide_eq_true_eq]at h5;simp only [bN,g6,decide_eq_true_eq,jY,decide_eq_false_iff_not];rintro⟨⟨q1,q2⟩,q3⟩
     rcases h5 with h5 | ⟨h5,h6⟩
     ·rw [decide_eq_true q1,decide_eq_true q2]at h5; cases h5
     ·rcases q3 with q3 | q3
      ·exact q3 (by omega)
      ·exact q3 h6
    rw [this,lM]
   ·refine WS.nil ⟨?_,_,rfl⟩;rw [oY,wz,hall2];rw [rf,z0]at h5;show(x9 fl r j&&true)=true;rw [gS];unfold x9;simp only [FT,Bool.not_eq_false',jY,decide_eq_false_iff_not]at h5;obtain⟨h5,h6⟩:=h5;rw [h5,iR];simp only [g6,jY,decide_eq_false_iff_not]
    rcases h6 with h6 | h6
    ·exact .inl fun z=>h6 (by omega)
    ·exact .inr h6
  ·rintro ρ ⟨hall2,b,rfl⟩;rw [f_]at hall2;refine⟨?_,_,_,rfl⟩;rw [di,pF,wz,mf];show(jL fl r&&true)=true;rw [gS];unfold jL;rw [hall2,decide_eq_true (by omega)];rfl
 ·rintro ρ ⟨mf,a,b,rfl⟩;rw [hlen,df]at mf;refine WS.one (W1.ret ar.bl ?_);show D.bl true=D.bl (good fl rows);unfold good;rw [mf,decide_eq_true g1,decide_eq_true g2];rfl
end
def g8(f:c5)(cell:Int)(st:List (List Int)×Option Int)(k:Nat):List (List Int)×Option Int:=
 match st.2 with
 | none=>st
 | some c=>
  let n:=((cell / 61+k) % f.st).toNat
  let Nv:=st.1.set n (st.1.getD n [] ++ [c])
  if good f Nv then(Nv,none)else st
def place(f:c5)(cell:Int)(rows:List (List Int))(c:Int)(n:Nat):List (List Int)×Option Int:=(bj n).foldl (g8 f cell) (rows,some c)
def pI(f:c5):Nat->Int->List (List Int)->List Int->List (List Int)
 | 0,_,rows,_=>rows
 | m+1,cell,rows,left=>
  let iy:=(cell * 48271+17) % 2147483647
  let i:=(iy / 7 % left.length).toNat
  pI f m iy (place f iy rows (left.getD i 0) f.st.toNat).1 (left.eraseIdx i)
def dW(f:c5)(cell:Int)(crates:List Int):List (List Int):=pI f crates.length cell (fD f.st.toNat []) crates
def Wb:Option Int->D
 | none=> .non
 | some c=> .int c
theorem pR(f:c5)(cell:Int)(rows:List (List Int))(c:Int)(n:Nat):place f cell rows c (n+1)=g8 f cell (place f cell rows c n) n:=by
 unfold place;rw [oY,KU];rfl
theorem qI{rows:List (List Int)}{n:Nat}{r:List Int}{k:Nat}(h:r.length<=(rows.getD n []).length+k):(rows.set n r).flatten.length<=rows.flatten.length+k:=by
 induction rows generalizing n with
 | nil=>simp
 | cons a rows ih=>
  cases n with
  | zero=>
   rw [List.set_cons_zero,cO,cO,aq,aq];have:(List.getD (a::rows) 0 []).length=a.length:=rfl;omega
  | succ n=>
   rw [Kq,cO,cO,aq,aq];have:=ih (n:=n) (by simpa using h);omega
theorem vQ(f:c5)(cell:Int)(st:List (List Int)×Option Int)(k:Nat):(g8 f cell st k).1.length=st.1.length/\(g8 f cell st k).1.flatten.length+(if(g8 f cell st k).2.isSome then 1 else 0)<=st.1.flatten.length+(if st.2.isSome then 1 else 0):=by
 obtain⟨rows,oc⟩:=st;cases oc with
 | none=>exact⟨rfl,ay _⟩
 | some c=>
  unfold g8;dsimp only
  split
  ·refine⟨bF .., ?_⟩;have:=qI (rows:=rows) (n:=((cell / 61+k) % f.st).toNat) (r:=rows.getD ((cell / 61+k) % f.st).toNat [] ++ [c]) (k:=1) (by rw [aq]; exact ay _);simpa using this
  ·exact⟨rfl,ay _⟩
theorem place_len(f:c5)(cell:Int)(rows:List (List Int))(c:Int): ∀n,(place f cell rows c n).1.length=rows.length/\(place f cell rows c n).1.flatten.length+(if(place f cell rows c n).2.isSome then 1 else 0)<=rows.flatten.length+1
 | 0=>⟨rfl,ay _⟩
 | n+1=>by
  obtain⟨a,b⟩:=place_len f cell rows c n;obtain⟨a',b'⟩:=vQ f cell (place f cell rows c n) n;rw [pR];exact⟨a'.trans a,bg b' b⟩
theorem xg{α β:Type}(g:α->β): ∀(l:List α) (n:Nat),(l.map g).eraseIdx n=(l.eraseIdx n).map g
 | [],_=>rfl
 | _::_,0=>rfl
 | a::l,n+1=>by rw [a9,List.eraseIdx_cons_succ,List.eraseIdx_cons_succ,a9,xg g l n]
def M5(i:Nat)(ρ:fB):Nat:=match ρ[i]? with
 | some (Sl.mu ds)=>ds.length
 | _=>0
theorem EF{t:Bool}{rows:List (List Int)}{n:Nat}{r:List Int}:bt t (rows.set n r)=(bt t rows).set n (An t (r.map .int)):=by
 unfold bt;rw [List.map_set]
theorem iM{t:Bool}{rows:List (List Int)}:(bt t rows).length=rows.length:=ae ..
theorem DT(ns:List Int):D.eqv (.lst (ns.map .int)) (.lst [])=decide (ns= []):=by cases ns <;> rfl
theorem EL{n:Nat}{ns:List Int}:D.flat (n+1) (.lst (ns.map .int)):=fun d hd=>by
 obtain⟨i,_,rfl⟩:=aE.mp hd;cases n <;> exact trivial
section
variable {P:aH}{w:aW}{K:Frag}{mg:Str->Option af}{base:aY}{CX:k_}
theorem uS:bM ["floor","cell","crates","rows","left","crate","k","spot","wider"] ["floor","cell","crates"] (aL oz):=l8
variable (P w K mg base CX)in
abbrev oW:Prop:=
 j6 P w K mg base CX 2 "_law_standing" (fun i:c5×Int×List Int=> [i.1.d, .int i.2.1, .lst (i.2.2.map .int)]) (fun i=>2<=i.1.st/\i.1.st<=4/\i.2.2.length<=100) (fun i=> .ok (.tup (bt true (dW i.1 i.2.1 i.2.2))))
theorem Ar{f:ai}{fd:bb}(nx:NX CX)(B:Bn mg)(G1:zk P w K mg base CX)(F:ji K "_law_standing" "_law_standing" oz f fd)(hm:mg "_law_standing"=some (.ref f))(hb:Binds K fd ["floor","cell","crates"] []):oW P w K mg base CX:=by
 refine eu F uS hm hb (fun i=>rfl) fun dX A outer s H E i M0 hp hr=>⟨_,rfl, ?_⟩;obtain⟨fl,vx,crates⟩:=i;obtain⟨Np,Kg,Zu⟩:2<=fl.st/\fl.st<=4/\crates.length<=100:=hp;have px:=uS.nd;change WS _ M0 H (bo oz) [.im fl.d, .im (.int vx), .im (.lst (crates.map .int)), .un, .un, .un, .un, .un, .un] {N:=fun _=>D.tup (bt true (dW fl vx crates))= .non,R:=fun d'=>d'= .tup (bt true (dW fl vx crates))};refine WS.cons (W1.comp (i:=3) (es:=bt false (fD fl.st.toNat [])) (cs:= []) (dU.closed (by decide +kernel) (by decide +kernel) rfl (by decide +kernel) rfl) rfl (by decide +kernel) (iU.range rfl B.range (ar.ixT (nm 0 rfl rfl) ar.int rfl) (by omega)) rh (by rw [f_,iM,jX]) (by rw [f_]; omega) ?_ px rfl rfl (fz rfl) ?_)
 ·intro C s₀ H₀ fp pins i d e h1 h2;obtain⟨r,pF,rfl⟩:=fG h2;have:r= []:=by
   rw [BF]at pF
   split at pF
   ·exact(aF pF).symm
   ·cases pF
  subst this;exact dF.toD (dF.lst aU.nil)
 refine WS.freeze (i:=3) rfl ?_;refine WS.cons (W1.setF (i:=4) px rfl (.inl rfl) (fz rfl) (dF.listL rfl B.list (ar.r (nm 2 rfl rfl))) ?_);refine WS.cons (W1.while (fun ρ=> ∃cell rows left a b c d,ρ= [.im fl.d, .im (.int cell), .im (.lst (crates.map .int)), .im (.lst (bt false rows)), .mu (left.map .int),a,b,c,d]/\(rows.length:Int)=fl.st/\rows.flatten.length+left.length<=100/\pI fl left.length cell rows left=dW fl vx crates)
  (M5 4) bu ⟨vx,fD fl.st.toNat [],crates,_,_,_,_,rfl,by rw [jX]; omega,by simpa using Zu,rfl⟩ ?_)
 rintro ρ ⟨cell,rows,left,a,b,c,d,rfl,hl,hsz,hrun⟩;refine⟨_,cg.ne (jB (pN hr)) (zr 4 rfl rfl) (ar.r (dF.toD (dF.lst aU.nil))) EL (fun _ h=>by cases h),fun h=> ?_,fun h=> ?_⟩
 ·rw [DT]at h;have ja:left≠ []:=by simpa using h
  obtain⟨m,hm⟩: ∃m,left.length=m+1:=⟨left.length - 1,by have:=qO.mpr ja; omega⟩;rw [hm]at hrun;refine WS.cons (W1.set (i:=1) px rfl (.inl rfl) (fz rfl) (ar.mod (ar.add (ar.mul (nm 1 rfl rfl) ar.int (.inr ⟨by decide,by decide⟩)) ar.int) ar.int (by decide)) ?_);generalize hc:(cell * 48271+17) % 2147483647=iy;have hi0:0<=iy / 7 % (left.length:Int):=iW _ (by omega);have RB:iy / 7 % (left.length:Int) < left.length:=gK _ (by omega);generalize Vm:(iy / 7 % (left.length:Int)).toNat=ix;have fj:ix < left.length:=by omega
  refine WS.cons (W1.popAt (i:=4) (j:=5) (n:=ix) (d:= .int (left.getD ix 0)) px rfl (.inl rfl) rfl rfl (.inl rfl) (fz rfl) (by decide) (ar.mod (ar.fdiv (nm 1 rfl rfl) ar.int ⟨by decide,by decide⟩) (ar.lenL rfl B.len (zr 4 rfl rfl)) (by rw [ae]; omega)) (by rw [ae]; omega)
   (by rw [aA,ak fj,aS,ak fj]; rfl) (by omega) ?_ ⟨rfl,rfl,rfl,rfl⟩)
  have Rn:(left.map D.int).eraseIdx ix=(left.eraseIdx ix).map D.int:=xg ..;rw [Rn];have WQ:(left.eraseIdx ix).length+1=left.length:=by rw [List.length_eraseIdx_of_lt fj]; omega
  refine WS.one (W1.for (ds:=jV 0 fl.st.toNat) (fun j ρ=> ∃x y z,ρ= [.im fl.d, .im (.int iy), .im (.lst (crates.map .int)), .im (.lst (bt false (place fl iy rows (left.getD ix 0) j).1)), .mu ((left.eraseIdx ix).map .int), .im (Wb (place fl iy rows (left.getD ix 0) j).2),x,y,z]) bu rfl
   (iU.range rfl B.range (ar.ixT (nm 0 rfl rfl) ar.int rfl) (by omega)) ⟨_,_,_,rfl⟩ ?_ ?_)
  ·rintro j d ρ hd ⟨x,y,z,rfl⟩;obtain⟨rfl,hj⟩:=gE hd;obtain⟨SY,SO⟩:=place_len fl iy rows (left.getD ix 0) j;rw [pR];generalize place fl iy rows (left.getD ix 0) j=st at SY SO;obtain⟨sh,oc⟩:=st;dsimp only at SY SO ⊢;refine⟨_,sW.name (i:=6) px rfl (.inl rfl) (fz rfl), ?_⟩;have s0:0<=(iy / 61+(0+(j:Int))) % fl.st:=iW _ (by omega);have s1:(iy / 61+(0+(j:Int))) % fl.st < fl.st:=gK _ (by omega);refine WS.cons (W1.set (i:=7) px rfl (.inl rfl) (fz rfl) (ar.mod (ar.add (ar.fdiv (nm 1 rfl rfl) ar.int ⟨by decide,by decide⟩) (nm 6 rfl rfl)) (ar.ixT (nm 0 rfl rfl) ar.int rfl) (by omega)) ?_);have z0:(0:Int)+(j:Int)=(j:Int):=by omega
   rw [z0]at s0 s1 ⊢;cases oc with
   | none=>exact WS.one (W1.ite (cg.notN (ar.r (nm 5 rfl rfl))) (fun h=>by cases h) fun h=>WS.nil ⟨_,_,_,rfl⟩)
   | some c=>
    refine WS.one (W1.ite (cg.notN (ar.r (nm 5 rfl rfl))) (fun _=> ?_) fun h=>by cases h);have s2:((iy / 61+(j:Int)) % fl.st).toNat < sh.length:=by omega
    have s3:(iy / 61+(j:Int)) % fl.st=(((iy / 61+(j:Int)) % fl.st).toNat:Int):=by omega
    unfold g8;dsimp only;generalize ((iy / 61+(j:Int)) % fl.st).toNat=sp at s2 s3;have rl:=mx (rows:=sh) (r:=sh.getD sp []) (by rw [aS,ak s2]; exact aX s2);have fl2:sh.flatten.length+1<=rows.flatten.length+1:=by simpa using SO
    refine WS.cons (W1.setF (i:=8) px rfl (.inl rfl) (fz rfl) (dF.listL rfl B.list (ar.r (nm 3 rfl rfl))) ?_);refine WS.cons (W1.setIx (i:=8) (n:=sp) rfl (.inl rfl) rfl (dF.toD (dF.cat (ds:=(sh.getD sp []).map .int) (ar.r (ar.ixL (ar.r (nm 3 rfl rfl)) (nm 7 rfl rfl) (by
      unfold bt;rw [sN,pM s3 s2,aS,ak s2];rfl))) (ar.r (dF.toD (dF.lst (aU.cons (nm 5 rfl rfl) aU.nil)))) (by rw [ae,cj]; omega))) (nm 7 rfl rfl) s3 (by rw [iM]; exact s2) ?_)
    have U3:(bt false sh).set sp (.lst ((sh.getD sp []).map .int ++ [D.int c]))=bt false (sh.set sp (sh.getD sp [] ++ [c])):=by
     rw [EF,bw]; rfl
    have RL:((bt false sh).set sp (.lst ((sh.getD sp []).map .int ++ [Wb (some c)])))=bt false (sh.set sp (sh.getD sp [] ++ [c])):=U3;rw [RL];have fl3:=qI (rows:=sh) (n:=sp) (r:=sh.getD sp [] ++ [c]) (k:=1) (by rw [aq]; exact ay _);have q1:(sh.set sp (sh.getD sp [] ++ [c])).flatten.length < 4000:=by omega
    have q2:(sh.set sp (sh.getD sp [] ++ [c])).length < 4000:=by rw [bF]; omega
    refine WS.one (W1.ite (cg.val (ar.callR G1 hr (aP nx) rfl (fl,false,sh.set sp (sh.getD sp [] ++ [c])) (vI.cons (ar.r (nm 0 rfl rfl)) (vI.one (zr 8 rfl rfl))) ⟨q1,q2⟩ rfl trivial)) (fun hg=> ?_) fun hg=> ?_)
    ·refine WS.freeze (i:=8) rfl (WS.cons (W1.set (i:=3) px rfl (.inl rfl) (fz rfl) (nm 8 rfl rfl) ?_));refine WS.one (W1.set (i:=5) px rfl (.inl rfl) (fz rfl) ar.non ?_);rw [if_pos hg];exact⟨_,_,_,rfl⟩
    ·refine WS.nil ?_;have ZK: ¬good fl (sh.set sp (sh.getD sp [] ++ [c]))=true:=by rw [show good fl (sh.set sp (sh.getD sp [] ++ [c]))=false from hg]; exact aG
     dsimp only;rw [if_neg ZK];exact⟨_,_,_,rfl⟩
  ·rintro ρ ⟨x,y,z,rfl⟩;rw [f_];obtain⟨SY,SO⟩:=place_len fl iy rows (left.getD ix 0) fl.st.toNat;refine⟨⟨iy,(place fl iy rows (left.getD ix 0) fl.st.toNat).1,left.eraseIdx ix,_,_,_,_,rfl,by rw [SY]; exact hl,by omega, ?_⟩, ?_⟩
   ·rw [<-hrun];have:(left.eraseIdx ix).length=m:=by omega
    rw [this];show _=pI fl m ((cell * 48271+17) % 2147483647) (place fl ((cell * 48271+17) % 2147483647) rows (left.getD ((cell * 48271+17) % 2147483647 / 7 % left.length).toNat 0) fl.st.toNat).1 (left.eraseIdx ((cell * 48271+17) % 2147483647 / 7 % left.length).toNat);rw [hc,Vm]
   ·show((left.eraseIdx ix).map D.int).length < (left.map D.int).length;rw [ae,ae];omega
 ·rw [DT]at h;have VR:left= []:=by simpa using h
  subst VR;have e:rows=dW fl vx crates:=hrun;subst e;refine WS.one (W1.ret (ar.tupleL rfl B.tuple (ar.r (dF.toD (dF.comp (es:=bt true (dW fl vx crates)) (cs:= []) (dU.closed (by decide +kernel) (by decide +kernel) rfl (by decide +kernel) rfl) rfl (by decide +kernel) (iU.list (nm 3 rfl rfl)) rh (by rw [iM,iM]) (by rw [iM]; omega) ?_)))) rfl);intro C s₀ H₀ fp pins i d e h1 h2;obtain⟨r,mj,rfl⟩:=fG h1;obtain⟨r2,yP,rfl⟩:=fG h2;rw [mj]at yP;cases yP;exact ar.tupleS (t:=false) rfl B.tuple (nm 0 rfl rfl)
end
end K
namespace Z
open PySem PySem.Spec PyProof.Rows L2
section
variable {X:Cx}{ρ:fB}{M0:MP}{H0:Hp}{P:pJ}{e a b:Expr}{d:D}{ds:List D}{pos p:Pos}
theorem zC{K:Frag}{M:MP}{H:Hp}{bs:List Bool}{xs:List V}{its:List af}(h:cU K M H (bs.map .bl) xs)(r:Vals xs its):its=bs.map gf:=by
 induction bs generalizing xs its with
 | nil=>cases (show xs= []from h); cases r; rfl
 | cons b bs ih=>
  obtain⟨v,t,rfl,h1,h2⟩:=h;cases r with
  | cons r1 r2=>
   cases (show v= .bl b from h1);rw [a9,ih h2 r2,show _=gf b from r1]
theorem rL(bs:List Bool)(tr:Nat->Bool)(h: ∀i b,bs[i]? =some b->tr i=b):(bj bs.length).all tr=bs.all id/\(bj bs.length).any tr=bs.any id:=by
 have e:(bj bs.length).map tr=bs:=by
  apply e7;intro i;rw [aA]
  by_cases hi:i < bs.length
  ·rw [Gk hi,ak hi];exact congrArg some (h i _ (ak hi))
  ·rw [bp (by rw [bS]; omega),bp (by omega)];rfl
 constructor
 ·rw [<-e,List.all_map,e]; rfl
 ·rw [<-e,List.any_map,e]; rfl
theorem rK{A:bA}(bs:List Bool):TruthOf X.prog X.w A (fun i v=>(bs.map gf)[i]? =some v) (fun i=>bs.getD i false):=fun i v s Q E h k=>by
 dsimp only at h k;rw [aA]at h;cases e:bs[i]? with
 | none=>rw [e]at h; cases h
 | some b=>
  rw [e]at h;cases h;rw [aS,e]at k;exact fV k
theorem Fj(hc:X.calm=true):gW X (.builtin "all") (fun xs H Q=> ∃(q:ai) (M:MP) (bs:List Bool),xs= [.ref q]/\qF X.K M H (.lst (bs.map .bl)) (.ref q)/\Q (.bl (bs.all id)) H):=by
 intro pins s σ H xs us Q I r ⟨q,M,bs,e,hq,k⟩;subst e;obtain⟨u,rfl,rx⟩:=vals1 r;cases rx;obtain⟨q',ys,eq,sq,dn⟩:=hq;cases eq;obtain⟨its,r',pl,hz⟩:=I.list sq;have hb:=zC dn r';subst hb;have fj:q < s.heap.objs.size:=by obtain⟨o,n,e,_⟩:=pl; exact az e
 refine call_all_walk (sr pl.isList ?_);refine⟨_,_,_,_,_,_,fun i=>bs.getD i false,rfl,Walks.list (by simp [I.ok.hd hc]) s.heap.objs.size q (aN fj) _,⟨⟨_,aw _ rfl,rfl,rfl⟩,pl.isList.push _⟩, ?_,fun h' tk hk=> ?_⟩
 ·have:=rK (X:=X) (A:=X.A.in1) bs;intro i v s Q E h;exact this i v s Q E (by rw [pv]at h; exact h)
 ·refine⟨.bl (bs.all id),H,I.kept (t':=tk) (fun b o e=>hk b o (by intro z; rw [aJ.mp z]at e; exact absurd (az e) (fv _)) (ah _ e)), ?_,k⟩;show _=gf _;rw [aD,ae,(rL bs _ fun i b h=>by rw [aS,h]; rfl).1]
theorem Ez(hc:X.calm=true):gW X (.builtin "any") (fun xs H Q=> ∃(q:ai) (M:MP) (bs:List Bool),xs= [.ref q]/\qF X.K M H (.lst (bs.map .bl)) (.ref q)/\Q (.bl (bs.any id)) H):=by
 intro pins s σ H xs us Q I r ⟨q,M,bs,e,hq,k⟩;subst e;obtain⟨u,rfl,rx⟩:=vals1 r;cases rx;obtain⟨q',ys,eq,sq,dn⟩:=hq;cases eq;obtain⟨its,r',pl,hz⟩:=I.list sq;have hb:=zC dn r';subst hb;have fj:q < s.heap.objs.size:=by obtain⟨o,n,e,_⟩:=pl; exact az e
 refine call_any_walk (sr pl.isList ?_);refine⟨_,_,_,_,_,_,fun i=>bs.getD i false,rfl,Walks.list (by simp [I.ok.hd hc]) s.heap.objs.size q (aN fj) _,⟨⟨_,aw _ rfl,rfl,rfl⟩,pl.isList.push _⟩, ?_,fun h' tk hk=> ?_⟩
 ·have:=rK (X:=X) (A:=X.A.in1) bs;intro i v s Q E h;exact this i v s Q E (by rw [pv]at h; exact h)
 ·refine⟨.bl (bs.any id),H,I.kept (t':=tk) (fun b o e=>hk b o (by intro z; rw [aJ.mp z]at e; exact absurd (az e) (fv _)) (ah _ e)), ?_,k⟩;show _=gf _;rw [aD,ae,(rL bs _ fun i b h=>by rw [aS,h]; rfl).2]
theorem ar.all{bs:List Bool}(hc:X.calm=true)(hg:Gl X "all")(hm:X.mg "all"=none)(h:kR X ρ e (.lst (bs.map .bl)))(he:ax [e] X.env= [(false,bV e X.env)]:=by rfl):ar X ρ (.Call (.Name "all" p) [e] [] pos) (.bl (bs.all id)):=
 ar.callB (Fj hc) hg hm (by decide +kernel) (vI.one h he) (fun M H vs Q dn k=>by
  obtain⟨v,r,rfl,e1,e2⟩:=dn;cases e2;obtain⟨q,xs,rfl,sq,z⟩:=id e1;exact⟨q,M,bs,rfl,e1,k _ H (bQ.refl _) rfl⟩) (he:=he)
theorem ar.any{bs:List Bool}(hc:X.calm=true)(hg:Gl X "any")(hm:X.mg "any"=none)(h:kR X ρ e (.lst (bs.map .bl)))(he:ax [e] X.env= [(false,bV e X.env)]:=by rfl):ar X ρ (.Call (.Name "any" p) [e] [] pos) (.bl (bs.any id)):=
 ar.callB (Ez hc) hg hm (by decide +kernel) (vI.one h he) (fun M H vs Q dn k=>by
  obtain⟨v,r,rfl,e1,e2⟩:=dn;cases e2;obtain⟨q,xs,rfl,sq,z⟩:=id e1;exact⟨q,M,bs,rfl,e1,k _ H (bQ.refl _) rfl⟩) (he:=he)
end
theorem Ie(l b:ai)(xs ys:Array af)(n m:Nat)(dd de:Option ai)(sl tl:Array (Option af))(h0:xs.isEmpty=true):
  Meets (dH.«tuple.__add__» ⟨[.ref l, .ref b], []⟩) (fun _ R s=>s.heap.get? l=some {cls:= .type "tuple",dict:=dd,data:= .seq xs n,slots:=sl}/\s.heap.get? b=some {cls:= .type "tuple",dict:=de,data:= .seq ys m,slots:=tl}/\
   R (.ok (.ret (au b))) {s with heap:=s.heap,toks:=s.toks}):=
 .of_wp fun prog w A R s h=>by
  obtain⟨hp,g,d,tk,os⟩:=s;obtain⟨hl,hb,h⟩:=h;have f2:=iP
  wp_walk using cC hl,cC hb
  exact⟨_,rfl,h⟩
theorem K7{prog:aH}{w:aW}{A:bA}{E:af->aj->Prop}{s:aj}{t sl:ai}{items:Array af}{vl vu:af}{lo hi:Option Int}{Q:af->aj->Prop}(ht:IsTup s.heap t items)(hs:s.heap.IsSliceOf sl vl vu .none)(pl:rF vl lo)(pu:rF vu hi)
  (hw:HT.gO items.size 0 lo=0/\HT.gO items.size items.size hi=items.size)(h:Q (.ref t) s):av (aC prog w) A (xq (.ref t) (.ref sl)) Q E s:=by
 obtain⟨os,Pp,Ei,RW⟩:=id hs;have VX:s.TypeIs (.ref sl) "slice":=⟨os,Pp,Ei⟩;unfold xq
 try with_reducible refine bP ?_
 first | refine aa (ag ?_) | skip
 refine aa (wpAny_sequenceKey ht.typeIs (by decide) ?_);refine aa (c6 (name:=iA "__getitem__") ht.typeIs eJ
  (bU eJ ht.typeIs entry_tuple_getitem ?_ (args_tuple_getitem _ _)))
 show av _ _ (yX (.ref t) >>=_) _ _ s;refine aa (tupleItemsOf_ ht ?_);refine aa (fq VX ?_);rw [if_pos (by decide)];refine aa (HT.l_ hs pl pu ?_);have V0:((((HT.gO items.size 0 lo:Nat):Int)==0&&(1:Int)==1&&(HT.gO items.size items.size hi - HT.gO items.size 0 lo)==items.size)=true):=by
  rw [hw.1,hw.2]; simp
 show av _ _ (if(((HT.gO items.size 0 lo:Nat):Int)==0&&(1:Int)==1&&(HT.gO items.size items.size hi - HT.gO items.size 0 lo)==items.size)=true then _ else _) _ _ s;rw [if_pos V0];unfold Builtin.Tuple.tupleIsExact;refine aa (aa (fq ht.typeIs (ag ?_)));rw [if_pos (by decide)];exact aa (fE (ag ⟨_,rfl,ag h⟩))
section
variable {X:Cx}{ρ:fB}{e a b:Expr}{d:D}{ds:List D}{pos p p2:Pos}
def Qi(K:Frag):V->Option Int->Option Int->Hp->VK->Prop:=fun x lo hi H Q=> ∃a xs,x= .ref a/\k9 K H a xs/\
 (HT.gO xs.length 0 lo=0/\HT.gO xs.length xs.length hi=xs.length->Q (.ref a) H)/\(¬(HT.gO xs.length 0 lo=0/\HT.gO xs.length xs.length hi=xs.length)-> ∀p,H p=none->Q (.ref p) (upd H p (.tup (xB xs lo hi))))
theorem LM:Sq X (Qi X.K):=by
 intro pins s σ H x v vl vu lo hi sl Q I rx hs pl pu h;obtain⟨a,xs,rfl,hx,q1,q2⟩:=h
 by_cases hw:HT.gO xs.length 0 lo=0/\HT.gO xs.length xs.length hi=xs.length
 ·cases rx;obtain⟨its,r,ht,hz⟩:=I.tuple hx;have hlen:its.toArray.size=xs.length:=by rw [aD]; exact r.length.symm
  refine⟨"tuple",_,eJ.lookup,ht.typeIs, ?_⟩;exact K7 ht hs pl pu (by rw [hlen]; exact hw) ⟨.ref a,H,I,rfl,q1 hw⟩
 ·exact N2 pins s σ H (.ref a) v vl vu lo hi sl Q I rx hs pl pu ⟨a,xs,rfl,hx,hw,q2 hw⟩
def cutD(ds:List D)(lo hi:Option Int):List D:=(ds.drop (HT.gO ds.length 0 lo)).take (HT.gO ds.length ds.length hi - HT.gO ds.length 0 lo)
theorem cU.cut{K:Frag}{M:MP}{H:Hp}{xs:List V}{lo hi:Option Int}(h:cU K M H ds xs):cU K M H (cutD ds lo hi) (xB xs lo hi):=by
 unfold cutD xB;rw [h.len];exact(h.drop _).take _
theorem Jl{lo hi:Option Int}(h:HT.gO ds.length 0 lo=0/\HT.gO ds.length ds.length hi=ds.length):cutD ds lo hi=ds:=by
 unfold cutD;rw [h.1,h.2,qc,Nat.sub_zero,df]
def tK(X:Cx)(ρ:fB)(e:Option Expr)(o:Option Int):Prop:=match e,o with
 | none,o=>o=none
 | some e,o=> ∃i,o=some i/\ar X ρ e (.int i)
theorem tK.none:tK X ρ none none:=rfl
theorem tK.some{i:Int}(h:ar X ρ e (.int i)):tK X ρ (some e) (some i):=⟨i,rfl,h⟩
theorem tK.run{eo:Option Expr}{o:Option Int}(h:tK X ρ eo o): ∃t,PO X eo t/\ ∀(M0:MP) (H0:Hp) (γ:List (D×V)) (α:Nat->ai) (σ:St) (H:Hp) (Q:Option Int->Hp->Prop),Rep X.K M0 H0 γ α ρ σ H->(∀H',bQ H H'->Q o H')->t σ H Q:=by
 cases eo with
 | none=>
  cases (show o=Option.none from h);exact⟨_,Lc,fun M0 H0 γ α σ H Q R k=>k H (bQ.refl _)⟩
 | some e=>
  obtain⟨i,rfl,h⟩:=h;exact⟨_,Lu iE,fun M0 H0 γ α σ H Q R k=>h M0 H0 γ α σ H _ R fun v H1 s1 d1=>⟨i,d1,k H1 s1⟩⟩
theorem ar.cutT{lo hi:Option Expr}{l u:Option Int}(ha:ar X ρ a (.tup ds))(hl:tK X ρ lo l)(hh:tK X ρ hi u):ar X ρ (.Subscript a (.Slice lo hi none p2) pos) (.tup (cutD ds l u)):=by
 obtain⟨tl,l1,l2⟩:=hl.run;obtain⟨th,h1,h2⟩:=hh.run;intro M0 H0 γ α σ H Q R k;refine(AL LM iE l1 h1).to (ha M0 H0 γ α σ H _ R fun v H1 s1 d1=>l2 M0 H0 γ α σ H1 _ (R.next s1) fun H2 s2=>h2 M0 H0 γ α σ H2 _ ((R.next s1).next s2) fun H3 s3=> ?_);obtain⟨q,xs,rfl,sq,dn⟩:=d1.same (s2.trans s3);refine⟨q,xs,rfl,sq,fun hw=> ?_,fun hw l hl=> ?_⟩
 ·rw [dn.len]at hw;exact k _ H3 ((s1.trans s2).trans s3) ⟨q,xs,rfl,sq,by rw [Jl hw]; exact dn⟩
 ·exact k _ _ (((s1.trans s2).trans s3).trans (bJ hl)) ⟨l,_,rfl,k9.of bI,dn.cut.same (bJ hl)⟩
theorem dF.cutL{lo hi:Option Expr}{l u:Option Int}(ha:kR X ρ a (.lst ds))(hl:tK X ρ lo l)(hh:tK X ρ hi u):dF X ρ (.Subscript a (.Slice lo hi none p2) pos) (cutD ds l u):=by
 obtain⟨tl,l1,l2⟩:=hl.run;obtain⟨th,h1,h2⟩:=hh.run;intro M0 H0 γ α σ H Q R k;refine(AL K_ iE l1 h1).to (ha M0 H0 γ α σ H _ R fun v H1 s1 d1=>l2 M0 H0 γ α σ H1 _ (R.next s1) fun H2 s2=>h2 M0 H0 γ α σ H2 _ ((R.next s1).next s2) fun H3 s3=> ?_);obtain⟨q,xs,rfl,sq,dn⟩:=d1.same (s2.trans s3);exact⟨q,xs,rfl,sq,fun l hl=>k l _ H3 _ ((s1.trans s2).trans s3) hl (bJ hl) bI ((qo hl dn.cut).same (bJ hl))⟩
def OJ(K:Frag):R2:=fun x y H Q=> ∃a b xs ys,x= .ref a/\y= .ref b/\k9 K H a xs/\k9 K H b ys/\xs.length+ys.length<=sizeLine/\(xs= []->Q (.ref b) H)/\(xs≠ []->ys= []->Q (.ref a) H)/\(xs≠ []->ys≠ []-> ∀p,H p=none->Q (.ref p) (upd H p (.tup (xs ++ ys))))
theorem Gq:oP X (ku .Add) (OJ X.K):=by
 intro pins s σ H x y v u Q I rx ry h;obtain⟨a,b,xs,ys,rfl,rfl,ha,hb,hz,q0,q1,q2⟩:=h
 by_cases hx:xs= []
 ·cases rx;cases ry;obtain⟨its,r1,⟨⟨cls,dd,data,sl⟩,ho,hc,n,hd⟩,_⟩:=I.tuple ha;obtain⟨iI,r2,⟨⟨Rk,KJ,data2,KC⟩,KN,Ef,n2,hd2⟩,_⟩:=I.tuple hb;simp only at hc hd Ef hd2;subst hc hd Ef hd2;have e:its= []:=r1.nil_iff.mpr hx;exact C3 ⟨_,ho,rfl⟩ ⟨_,KN,rfl⟩ MJ seq_tuple_add C4 BG (Bd _ _)
   (Ie a b its.toArray iI.toArray n n2 dd KJ sl KC (by simp [e])) ⟨ho,KN,⟨.ref b,H,I,rfl,q0 hx⟩⟩
 ·exact La pins s σ H (.ref a) (.ref b) v u Q I rx ry ⟨a,b,xs,ys,rfl,rfl,ha,hb,hx,hz,q1 hx,q2 hx⟩
theorem cU.nil_iff{K:Frag}{M:MP}{H:Hp}{xs:List V}(h:cU K M H ds xs):xs= []->ds= []:=fun e=>by
 have:=h.len;rw [e]at this;exact BH.mp this.symm
theorem ar.catT{fs:List D}(ha:ar X ρ a (.tup ds))(hb:ar X ρ b (.tup fs))(hl:ds.length+fs.length<=1000000):ar X ρ (.BinOp a .Add b pos) (.tup (ds ++ fs)):=fun M0 H0 γ α σ H Q R k=>
 (Jh Gq iE iE).to (ha M0 H0 γ α σ H _ R fun v H1 s1 d1=>hb M0 H0 γ α σ H1 _ (R.next s1) fun u H2 s2 d2=>by
  obtain⟨q,xs,rfl,sq,dn⟩:=d1.same s2;obtain⟨q2,SD,rfl,PX,Gg⟩:=d2;refine⟨q,q2,xs,SD,rfl,rfl,sq,PX,by rw [dn.len,Gg.len]; exact kr hl,fun e=> ?_,fun _ e=> ?_,fun _ _ l A8=> ?_⟩
  ·exact k _ H2 (s1.trans s2) ⟨q2,SD,rfl,PX,by rw [dn.nil_iff e]; exact Gg⟩
  ·exact k _ H2 (s1.trans s2) ⟨q,xs,rfl,sq,by rw [Gg.nil_iff e,bz]; exact dn⟩
  ·exact k _ _ ((s1.trans s2).trans (bJ A8)) ⟨l,_,rfl,k9.of bI,(cU.app dn Gg).same (bJ A8)⟩)
end
end Z
namespace Tx
def Qw{α:Type} [DecidableEq α](s:List α)(a:α):List α:=if a∈s then s else s ++ [a]
def uniq{α:Type} [DecidableEq α](l:List α):List α:=l.foldl Qw []
end Tx
namespace Z
open PySem PySem.Spec PyProof.Rows L2
theorem HA: ∀{xs:List V} {us:List af},xs.length=us.length->(∀(i:Nat) (x:V) (u:af),xs[i]? =some x->us[i]? =some u->RelV x u)->Vals xs us
 | [], [],_,_=> .nil
 | [],_::_,h,_=>by simp at h
 | _::_, [],h,_=>by simp at h
 | x::xs,u::us,h,k=> .cons (k 0 x u rfl rfl) (HA (by simpa using h) fun i y v h1 h2=>k (i+1) y v (by simpa using h1) (by simpa using h2))
section
variable {X:Cx}{ρ:fB}{M0:MP}{H0:Hp}{P:pJ}{e a b o tg:Expr}{es:List Expr}{d:D}{ds:List D}{pos p p2 p3 apos p7:Pos}
theorem uy{i j:Str}:decide (V.str i=V.str j)=decide (i=j):=by
 by_cases h:i=j
 ·subst h; simp
 ·rw [decide_eq_false h,decide_eq_false fun q=>h (by injection q)]
theorem ar.eqS{i j:Str}(ha:ar X ρ a (.str i))(hb:ar X ρ b (.str j)):ar X ρ (.Compare a [.Eq] [b] pos) (.bl (decide (i=j))):=
 ar.cmp Il ha.r hb.r (nG b) fun M H x y Q dx dy k=>by
  cases (show x= .str i from dx);cases (show y= .str j from dy);exact⟨rfl,by rw [uy]; exact k⟩
theorem cg.eqS{i j:Str}(ha:ar X ρ a (.str i))(hb:ar X ρ b (.str j)):cg X ρ (.Compare a [.Eq] [b] pos) (decide (i=j)):=
 cg.cmp Il ha.r hb.r (nG b) fun M H x y Q dx dy k=>by
  cases (show x= .str i from dx);cases (show y= .str j from dy);exact⟨rfl,by rw [uy]; exact k⟩
theorem cg.neS{i j:Str}(ha:ar X ρ a (.str i))(hb:ar X ρ b (.str j)):cg X ρ (.Compare a [.NotEq] [b] pos) (!decide (i=j)):=
 cg.cmp MU ha.r hb.r (nG b) fun M H x y Q dx dy k=>by
  cases (show x= .str i from dx);cases (show y= .str j from dy);exact⟨rfl,by rw [uy]; exact k⟩
end
end Z
namespace Z
open PySem PySem.Spec PyProof.Rows L2
theorem Eb{i:Int}:qQ "int" (.int i)=true:=by simp [qQ,Nf]
theorem zQ{i:Int}:qQ "bool" (.int i)=false:=by simp [qQ,Nf]
theorem mF{ds:List D}:qQ "tuple" (.tup ds)=true:=by simp [qQ,Nf]
theorem jS{d:D}(h:D.flat 60 d):D.eqv d d=true:=by
 unfold D.eqv;exact PySem.SeqAt.eqv_refl _ (iK 60 d h).1
section
variable {X:Cx}{ρ:fB}{e:Expr}{pos p p2 p3:Pos}
theorem zN:gW X (.type "range") (fun xs H Q=> ∃j:Int,xs= [.int j]/\ ∀l,H l=none->Q (.ref l) (upd H l (.rng 0 j))):=by
 intro pins s σ H xs us Q I r ⟨j,e,k⟩;subst e;obtain⟨u,rfl,t,rfl⟩:=vals1 r;exact call_range_1 ⟨.ref s.heap.objs.size,_,I.laid (fun b o e=>ah _ e) (ay _) (o:= .rng 0 j) ⟨_,_,_,aw _ rfl⟩,rfl,k _ I.fresh⟩
theorem yA(hc:X.calm=true):gW X (.type "list") (fun xs H Q=> ∃(q:ai) (hi:Int),xs= [.ref q]/\H q=some (.rng 0 hi)/\0<=hi/\hi<=100000/\
  ∀l,H l=none->Q (.ref l) (upd H l (.lst ((bj hi.toNat).map fun(i:Nat)=>V.int (0+(i:Int)))))):=by
 intro pins s σ H xs us Q I r ⟨q,hi,e,hq,h0,h1,k⟩;subst e;obtain⟨u,rfl,rx⟩:=vals1 r;cases rx;obtain⟨t,u',v',e⟩:=I.fb q _ hq;refine call_list_range (a:=0) (b:=hi) (c:=1) (n:=hi.toNat) (I.ok.hd hc) (show IsRange s.heap q 0 hi 1 t u' v' from e) (small_one (by omega) (by omega) (by omega) (by omega)) (by rw [rangeSize_one]; split <;> omega) (by omega) fun h' tk acc c' hk hS wq=> ?_;refine⟨.ref s.heap.objs.size,_,I.laid (t':=tk) hk (ay _) (o:= .lst ((bj hi.toNat).map fun(i:Nat)=>V.int (0+(i:Int)))) ⟨?_,acc.toList,c',HA ?_ fun i x u hx hu=> ?_,by simpa using hS⟩,rfl,k _ I.fresh⟩
 ·rw [ae,bS];exact kr (by omega)
 ·rw [ae,bS,ao,wq.1]
 ·rw [aA]at hx;have SR:acc[i]? =some u:=by simpa using hu
  obtain⟨tk,rfl⟩:=wq.2 i u SR;cases er:(bj hi.toNat)[i]? with
  | none=>rw [er]at hx; cases hx
  | some j=>
   rw [er]at hx;obtain⟨_,h2⟩:=aB.mp er;rw [Kp]at h2;subst h2;cases hx;exact⟨tk,by rw [Int.mul_one]⟩
theorem cU.rng{K:Frag}{M:MP}{H:Hp}(n:Nat):cU K M H (jV 0 n) ((bj n).map fun(i:Nat)=>V.int (0+(i:Int))):=by
 unfold jV;generalize bj n=l
 induction l with
 | nil=>rfl
 | cons a l ih=>exact⟨_,_,rfl,rfl,ih⟩
theorem dF.listRng{j:Int}(hc:X.calm=true)(hg:Gl X "list")(hm:X.mg "list"=none)(mK:Gl X "range")(qM:X.mg "range"=none)(h:ar X ρ e (.int j))(h0:0<=j)(h1:j<=100000)
  (he:ax [e] X.env= [(false,bV e X.env)]:=by rfl)(si:ax [.Call (.Name "range" p2) [e] [] p3] X.env= [(false,bV (.Call (.Name "range" p2) [e] [] p3) X.env)]:=by rfl):dF X ρ (.Call (.Name "list" p) [.Call (.Name "range" p2) [e] [] p3] [] pos) (jV 0 j.toNat):=fun M0 H0 γ α σ H Q R k=>
 (jr (yA hc) hg hm (by decide +kernel) (e_ (jr zN mK qM (by decide +kernel) (e_ iE hG he) (by decide) (by decide) he) hG si) (by decide) (by decide) si).to (h M0 H0 γ α σ H _ R fun v H1 s1 d1=>by
  cases (show v= .int j from d1);exact⟨j,rfl,fun l A8=>⟨l,j,rfl,bI,h0,h1,fun l2 zb=>k l2 _ _ _ (s1.trans (bJ A8)) zb (bJ zb) bI (cU.rng _)⟩⟩)
end
end Z
namespace Z
open PySem PySem.Spec PyProof.Rows L2
section
variable {P:aH}{w:aW}{K:Frag}{mg:Str->Option af}{base:aY}{CX:k_}{k:Nat}{x qual:Str}{st:cF}{f:ai}{fd:bb}{N ps:List Str}{ι:Type}{args:ι->List D}{pre:ι->Prop}{res:ι->Except ai D}
theorem DE(F:ji K x qual st f fd)(S:bM N ps (aL st))(hl: ∀i,(args i).length=ps.length)
  (body: ∀(dX:af) (A:bA) (outer:List Env) (s:aj) (H:Hp) (E:XK) (i:ι) (M0:MP),pre i->eW k (A.deeper (mM qual (aL st) s.heap.objs.size f dX))->
   ∃d,res i= .ok d/\WS (pb CX P w K mg base N qual (aL st) f dX A outer s H E).nox M0 H (bo st) (uh N (args i)) {N:=fun _=>d= .non,R:=fun d'=>d'=d}):mZ P w K mg base CX (k+1) f fd ps (nX K args pre res):=by
 obtain⟨oc,od,kV,doc,pm,an,dX,ct,vK,rfl,lk,kc⟩:=F.ex;refine zI lk kc S (fun vs H Q E ⟨i,M0,_,h,_⟩=>by rw [h.len,hl]) fun A outer s H vs Q E hr BC=> ?_;obtain⟨i,M0,hM,h,hp,k1,k2⟩:=BC;obtain⟨d,hd,ws⟩:=body dX A outer s H E i M0 hp hr;refine⟨mi _ (bo st),(gr (X:=(pb CX P w K mg base N qual (aL st) f dX A outer s H E).nox)).nox, ?_⟩;refine mi.mono (En:=ends K M0 H [] {N:=fun _=>d= .non,R:=fun d'=>d'=d}) (fun fA H' ⟨α,ρ,R,e⟩=> ?_) (fun v H' ⟨d',e,sm,dn⟩=> ?_) (fun _ _ ⟨_,_,_,z⟩=>z.elim) (fun _ _ ⟨_,_,_,z⟩=>z.elim) (ws [] (fun _=>0) _ H (rep0 hM h))
 ·exact k1 d hd .non H' R.same (by rw [e]; exact rfl)
 ·subst e;exact k1 _ hd v H' sm dn
end
abbrev Dm(K:Frag):Sp:=nX K (fun ns:List Int=> [D.lst (ns.map .int)]) (fun ns=>ns.length<=63) (fun _=> .ok (.bl true))
end Z
namespace Z
open PySem
def o9(xs:Array Nat):Prop:=xs.toList.Pairwise (· < ·)
theorem o9.lt{xs:Array Nat}(h:o9 xs){i j:Nat}(kS:i < j)(hj:j < xs.size):xs[i]'(jC kS hj) < xs[j]:=by
 have:=bY.mp h i j (by simpa using jC kS hj) (by simpa using hj) kS;simpa using this
theorem uJ{xs:Array Nat}(h:o9 xs){j:Nat}: ∀(fuel lo hi:Nat),lo<=hi->hi<=xs.size->hi - lo<=fuel->(∀i (FD:i < xs.size),i < lo->xs[i] < j)->(∀i (FD:i < xs.size),hi<=i->j<=xs[i])->
  sE xs j fuel lo hi<=xs.size/\(∀i (FD:i < xs.size),i < sE xs j fuel lo hi->xs[i] < j)/\(∀i (FD:i < xs.size),sE xs j fuel lo hi<=i->j<=xs[i])
 | 0,lo,hi,h1,h2,h3,a,b=>by
  have:lo=hi:=by omega
  subst this;exact⟨h2,a,b⟩
 | fuel+1,lo,hi,h1,h2,h3,a,b=>by
  unfold sE
  by_cases fj:lo < hi
  ·rw [if_pos fj];dsimp only;have hm:(lo+hi) / 2 < xs.size:=by omega
   have e:xs.getD ((lo+hi) / 2) j=xs[(lo+hi) / 2]:=by simp [ot,hm]
   rw [e]
   by_cases hc:xs[(lo+hi) / 2] < j
   ·rw [if_pos hc];refine uJ h fuel _ _ (by omega) h2 (by omega) (fun i FD hl=> ?_) b
    by_cases hq:i=(lo+hi) / 2
    ·subst hq; exact hc
    ·exact jC (h.lt (by omega) hm) hc
   ·rw [if_neg hc];refine uJ h fuel _ _ (by omega) (by omega) (by omega) a fun i FD hl=> ?_
    by_cases hq:i=(lo+hi) / 2
    ·subst hq; omega
    ·have:=h.lt (i:=(lo+hi) / 2) (j:=i) (by omega) FD;omega
  ·rw [if_neg fj];have:lo=hi:=by omega
   subst this;exact⟨h2,a,b⟩
structure X1(xs:Array Nat)(j:Nat):Prop where
 le:bH xs j<=xs.size
 lo: ∀i (hi:i < xs.size),i < bH xs j->xs[i] < j
 hi: ∀i (hi:i < xs.size),bH xs j<=i->j<=xs[i]
theorem Qb{xs:Array Nat}(h:o9 xs)(j:Nat):X1 xs j:=by
 obtain⟨a,b,c⟩:=uJ h (j:=j) xs.size 0 xs.size (bK _) (ay _) (ay _) (fun i _ z=>absurd z (iX _)) (fun i hi z=>by omega);exact⟨a,b,c⟩
theorem below_at{xs:Array Nat}(h:o9 xs){i:Nat}(hi:i < xs.size):bH xs xs[i]=i:=by
 have b:=Qb h xs[i];have le:=b.le
 by_cases h1:bH xs xs[i] < i
 ·have:=b.hi _ (by omega) (ay _);have:=h.lt h1 hi;omega
 ·by_cases h2:i < bH xs xs[i]
  ·have:=b.lo i hi h2;omega
  ·omega
theorem Am{t:bC}(h:o9 t.place){i r:Nat}(e:t.place[i]? =some r):t.slot r= .live i:=by
 obtain⟨hi,rfl⟩:=bT.mp e;unfold Bh;dsimp only;rw [below_at h hi,if_pos (by rw [e]; exact beq_self_eq_true _)]
theorem zK{t:bC}(hd:t.dummies= #[])(r:Nat):t.slot r= .empty\/ ∃i,t.slot r= .live i/\t.place[i]? =some r:=by
 unfold Bh;dsimp only
 by_cases h:(t.place[bH t.place r]? ==some r)=true
 ·rw [if_pos h];exact .inr ⟨_,rfl,by simpa using h⟩
 ·rw [if_neg h,hd];exact .inl rfl
theorem oO{t:bC}(hd:t.dummies= #[])(h:o9 t.place){r:Nat}:t.slot r≠ .empty↔r∈t.place.toList:=by
 constructor
 ·intro ja
  rcases zK hd r with z | ⟨i,_,e⟩
  ·exact absurd z ja
  ·exact Array.mem_toList_iff.mpr (pz e)
 ·intro hm;obtain⟨i,hi,e⟩:=eE hm;rw [Am h (i:=i) (by rw [<-bf,ak hi,e])];intro z;cases z
theorem T5{xs:Array Nat}(h:o9 xs){j:Nat}(hj:j∉xs.toList):o9 (bL xs (bH xs j) j):=by
 have b:=Qb h j;have e:(bL xs (bH xs j) j).toList=xs.toList.take (bH xs j) ++ j::xs.toList.drop (bH xs j):=by
  unfold bL;have hle:=b.le;simp [ic,iG];exact dg (by simp)
 unfold o9;rw [e,bX];have lo: ∀x∈xs.toList.take (bH xs j),x < j:=fun x hx=>by
  obtain⟨i,hi,rfl⟩:=eE hx;rw [bh]at hi;rw [eC];have:=b.lo i (by rw [ao]at hi; omega) (by omega);simpa using this
 have hi: ∀x∈xs.toList.drop (bH xs j),j < x:=fun x hx=>by
  have hm:=fX hx;obtain⟨i,hi,rfl⟩:=eE hx;rw [bq]at hi;rw [dj]at hm ⊢;have:=b.hi (bH xs j+i) (by rw [ao]at hi; omega) (by omega);have ne:xs.toList[bH xs j+i]'(by omega)≠j:=fun z=>hj (z▸hm);have:j<=xs.toList[bH xs j+i]'(by omega):=by simpa using this
  omega
 refine⟨h.sublist (jx _ _),cD.mpr ⟨hi,h.sublist (jD _ _)⟩,fun x hx y hy=> ?_⟩
 rcases aV.mp hy with rfl | hy
 ·exact lo x hx
 ·exact jC (lo x hx) (hi y hy)
theorem QC{xs:Array Nat}(h:o9 xs){i:Nat}(hi:i<=xs.size):bH xs (if i=0 then 0 else xs.getD (i - 1) 0+1)=i:=by
 by_cases h0:i=0
 ·subst h0;rw [if_pos rfl];have b:=Qb h 0;have le:=b.le
  by_cases z:bH xs 0=0
  ·exact z
  ·have:=b.lo 0 (by omega) (by omega);omega
 ·rw [if_neg h0];have hl:i - 1 < xs.size:=by omega
  have e:xs.getD (i - 1) 0=xs[i - 1]:=by simp [ot,hl]
  rw [e];have b:=Qb h (xs[i - 1]+1);have le:=b.le
  by_cases h1:bH xs (xs[i - 1]+1) < i
  ·have:=b.hi (i - 1) hl (by omega);omega
  ·by_cases h2:i < bH xs (xs[i - 1]+1)
   ·have q:=b.lo i (by omega) h2;have:=h.lt (i:=i - 1) (j:=i) (by omega) (by omega);omega
   ·omega
end Z
namespace Z
open PySem PySem.Spec PyProof.Rows
def eM(t:bC):Nat->cN->cN
 | 0,p=>p
 | k+1,p=>eM t k (t.advance p)
theorem jT(t:bC): ∀(k l:Nat) (p:cN),eM t (k+l) p=eM t l (eM t k p)
 | 0,l,p=>by rw [oq]; rfl
 | k+1,l,p=>by rw [Nat.succ_add]; exact jT t k l (t.advance p)
theorem qZ{t t':bC}(h:t.mask=t'.mask): ∀(k:Nat) (p:cN),eM t k p=eM t' k p
 | 0,_=>rfl
 | k+1,p=>by
  show eM t k (t.advance p)=eM t' k (t'.advance p);have e:t.advance p=t'.advance p:=by unfold MK; rw [h]
  rw [e];exact qZ h k _
theorem ua{t t':bC}(h:t.mask=t'.mask)(x:Int):t.probeStart x=t'.probeStart x:=by unfold SetTable.probeStart; rw [h]
def HH(m:Nat):Prop:=m=7\/m=31\/m=127\/m=511
structure nQ(t:bC)(p:cN):Prop where
 jm:p.j+p.more<=t.mask
 il:p.i<=t.mask
 m9:p.more<=9
 dm:p.dummy=none
theorem nQ.lt{t:bC}{p:cN}(h:nQ t p):p.j<=t.mask:=by have:=h.jm; omega
def lj(m i iw:Nat):cN:={j:=i,more:=cb m i - i,i:=i,perturb:=iw,dummy:=none}
theorem q_{m i:Nat}(h:i<=m):i+(cb m i - i)<=m/\cb m i - i<=9:=by
 unfold cb
 split <;> omega
theorem nE{t:bC}{i iw:Nat}(h:i<=t.mask):nQ t (lj t.mask i iw):=⟨(q_ h).1,h,(q_ h).2,rfl⟩
theorem uH{t:bC}{p:cN}(h:0 < p.more):t.advance p={p with j:=p.j+1,more:=p.more - 1}:=by
 unfold MK;rw [if_pos h]
theorem zU{t:bC}{p:cN}(h:p.more=0)(hd:p.dummy=none):t.advance p=lj t.mask ((p.i * 5+1+p.perturb / 32) % (t.mask+1)) (p.perturb / 32):=by
 unfold MK SetTable.leap;rw [if_neg (by omega)];dsimp only;rw [hd];rfl
theorem nQ.adv{t:bC}{p:cN}(h:nQ t p):nQ t (t.advance p):=by
 by_cases hm:0 < p.more
 ·rw [uH hm];exact⟨by have:=h.jm; show p.j+1+(p.more - 1)<=_; omega,h.il,by have:=h.m9; show p.more - 1<=9; omega,h.dm⟩
 ·rw [zU (by omega) h.dm];exact nE (iY.mp (y6 _ (sF _)))
theorem nQ.eM{t:bC}: ∀{k:Nat} {p:cN},nQ t p->nQ t (Z.eM t k p)
 | 0,_,h=>h
 | k+1,_,h=>nQ.eM (k:=k) h.adv
theorem tM{t:bC}: ∀(m:Nat) (p:cN),nQ t p->p.more=m->eM t (m+1) p=lj t.mask ((p.i * 5+1+p.perturb / 32) % (t.mask+1)) (p.perturb / 32)
 | 0,p,h,e=>by
  show t.advance p=_;exact zU e h.dm
 | m+1,p,h,e=>by
  show eM t (m+1) (t.advance p)=_;have ea:=uH (t:=t) (p:=p) (by omega);rw [tM m _ h.adv (by rw [ea]; show p.more - 1=m; omega),ea]
theorem B4{t:bC}: ∀(k:Nat) (p:cN),k<=p.more->(eM t k p).j=p.j+k
 | 0,_,_=>rfl
 | k+1,p,h=>by
  show(eM t k (t.advance p)).j=_;have ea:=uH (t:=t) (p:=p) (by omega);rw [ea,B4 k _ (by show k<=p.more - 1; omega)];show p.j+1+k=_;omega
def o5(m:Nat):Nat->Nat×Nat->Nat×Nat
 | 0,x=>x
 | n+1,x=>o5 m n ((x.1 * 5+1+x.2 / 32) % (m+1),x.2 / 32)
theorem xc{t:bC}: ∀(n i iw:Nat),i<=t.mask-> ∃K,K<=10 * n/\eM t K (lj t.mask i iw)=lj t.mask (o5 t.mask n (i,iw)).1 (o5 t.mask n (i,iw)).2
 | 0,i,iw,_=>⟨0,ay _,rfl⟩
 | n+1,i,iw,h=>by
  have hi:(i * 5+1+iw / 32) % (t.mask+1)<=t.mask:=iY.mp (y6 _ (sF _));obtain⟨K,hK,e⟩:=xc n _ (iw / 32) hi;have m9:=(q_ h).2;refine⟨cb t.mask i - i+1+K,by omega, ?_⟩;rw [jT,tM (cb t.mask i - i) (lj t.mask i iw) (nE h) rfl];exact e
theorem zW(m:Nat): ∀(n:Nat) (x:Nat×Nat),(o5 m n x).2=x.2 / 32 ^ n
 | 0,x=>by show x.2=x.2 / 1; rw [Nat.div_one]
 | n+1,x=>by
  show(o5 m n _).2=_;rw [zW m n];show x.2 / 32 / 32 ^ n=_;rw [Nat.div_div_eq_div_mul,Nat.pow_succ,Nat.mul_comm]
theorem Av(m:Nat): ∀(k l:Nat) (x:Nat×Nat),o5 m (k+l) x=o5 m l (o5 m k x)
 | 0,l,x=>by rw [oq]; rfl
 | k+1,l,x=>by rw [Nat.succ_add]; exact Av m k l _
def zi(m:Nat):Nat->Nat->Nat
 | 0,j=>j
 | k+1,j=>zi m k ((j * 5+1) % (m+1))
theorem qp(m:Nat): ∀(k l j:Nat),zi m (k+l) j=zi m l (zi m k j)
 | 0,l,j=>by rw [oq]; rfl
 | k+1,l,j=>by rw [Nat.succ_add]; exact qp m k l _
theorem Ds(m:Nat): ∀(k:Nat) (x:Nat×Nat),x.2=0->(o5 m k x).1=zi m k x.1
 | 0,_,_=>rfl
 | k+1,x,h=>by
  show(o5 m k _).1=_;rw [Ds m k _ (by show x.2 / 32=0; rw [h]),h];rfl
def QF(m:Nat):Nat->Nat->List Nat
 | 0,_=> []
 | n+1,j=>j::QF m n ((j * 5+1) % (m+1))
theorem yi(m:Nat): ∀(n j r:Nat),r∈QF m n j-> ∃k,k < n/\zi m k j=r
 | 0,_,_,h=>by cases h
 | n+1,j,r,h=>by
  rcases aV.mp h with rfl | h
  ·exact⟨0,sF _,rfl⟩
  ·obtain⟨k,hk,e⟩:=yi m n _ r h;exact⟨k+1,Nat.succ_lt_succ hk,e⟩
theorem Dq{m:Nat}(h:HH m): ∀r,r<=m->r∈QF m (m+1) 0:=by
 have c: ∀m,(bj (m+1)).all (fun r=>(QF m (m+1) 0).contains r)=true-> ∀r,r<=m->r∈QF m (m+1) 0:=fun m h r hr=>by
  have:=nh.mp h r (cy.mpr (iY.mpr hr));simpa using this
 rcases h with rfl | rfl | rfl | rfl
 ·exact c 7 (by decide +kernel)
 ·exact c 31 (by decide +kernel)
 ·exact c 127 (by decide +kernel)
 ·exact c 511 (by decide +kernel)
theorem Jo{m:Nat}(h:HH m):zi m (m+1) 0=0:=by
 rcases h with rfl | rfl | rfl | rfl <;> decide +kernel
theorem Lv{m:Nat}(h:HH m){j r:Nat}(hj:j<=m)(hr:r<=m): ∃k,k<=m/\zi m k j=r:=by
 obtain⟨a,ha,rfl⟩:=yi m _ _ _ (Dq h j hj);obtain⟨b,hb,rfl⟩:=yi m _ _ _ (Dq h r hr)
 by_cases qV:a<=b
 ·refine⟨b - a,by omega, ?_⟩;rw [<-qp];congr 1;omega
 ·refine⟨m+1+b - a,by omega, ?_⟩;rw [<-qp,show a+(m+1+b - a)=m+1+b by omega,qp,Jo h]
theorem uU: ∀(n:Nat) (l:List Nat),(∀r,r < n->r∈l)->n<=l.length
 | 0,_,_=>bK _
 | n+1,l,h=>by
  have hn:=h n (gA n);have h1:=uU n (l.erase n) fun r hr=>(List.mem_erase_of_ne (aN hr)).mpr (h r (cZ hr));have h2:=List.length_erase_of_mem hn;have h3:=List.length_pos_of_mem hn;omega
theorem EJ{t:bC}(hd:t.dummies= #[]){r:Nat}(h:r∉t.place.toList):t.slot r= .empty:=by
 unfold Bh;dsimp only;have h1:(t.place[bH t.place r]? ==some r)=false:=by
  rw [beq_eq_false_iff_ne];intro e;exact h (by simpa using pz e)
 rw [h1,hd];rfl
theorem BR{t:bC}(hd:t.dummies= #[])(r:Nat):t.slot r= .empty\/ ∃i,t.slot r= .live i/\t.place[i]? =some r:=by
 unfold Bh;dsimp only
 by_cases h1:(t.place[bH t.place r]? ==some r)=true
 ·rw [if_pos h1];exact .inr ⟨_,rfl,eq_of_beq h1⟩
 ·rw [if_neg h1,hd];exact .inl rfl
theorem NU{t:bC}(hs:t.place.size<=t.mask): ∃r,r<=t.mask/\r∉t.place.toList:=by
 apply ze;intro hn;have:=uU (t.mask+1) t.place.toList fun r hr=>ze fun z=>hn ⟨r,iY.mp hr,z⟩;simp at this;omega
theorem xi{m:Nat}(h:HH m){i iw r:Nat}(hi:i<=m)(hb:iw < 2 ^ 64)(hr:r<=m): ∃n,n<=13+m/\(o5 m n (i,iw)).1=r:=by
 have hz:(o5 m 13 (i,iw)).2=0:=by
  rw [zW];exact Nat.div_eq_of_lt (bB hb (by decide +kernel))
 have hl:(o5 m 13 (i,iw)).1<=m:=by
  have: ∀(n:Nat) (x:Nat×Nat),x.1<=m->(o5 m n x).1<=m:=fun n=>by
   induction n with
   | zero=>exact fun x h=>h
   | succ n ih=>exact fun x _=>ih _ (iY.mp (y6 _ (sF _)))
  exact this 13 _ hi
 obtain⟨k,hk,e⟩:=Lv h hl hr;refine⟨13+k,by omega, ?_⟩;rw [Av,Ds m k _ hz,e]
theorem wR{t:bC}(h:Int):t.probeStart h=lj t.mask (dB h % (t.mask+1)) (dB h):=rfl
theorem DM(h:Int):dB h < 2 ^ 64:=by
 unfold dB;have h1:=gK h (show(0:Int) < 2 ^ 64 by decide);have h2:=iW h (show(2 ^ 64:Int)≠0 by decide);omega
theorem mod_le(a m:Nat):a % (m+1)<=m:=iY.mp (y6 _ (sF _))
theorem z5{t:bC}(h:Int):nQ t (t.probeStart h):=by
 rw [wR];exact nE (mod_le _ _)
theorem reach{t:bC}(hm:HH t.mask)(hd:t.dummies= #[])(hs:t.place.size<=t.mask)(h:Int): ∃K,K<=10 * (13+t.mask)/\t.slot (eM t K (t.probeStart h)).j= .empty:=by
 obtain⟨r,hr,UW⟩:=NU hs;obtain⟨n,hn,e⟩:=xi hm (mod_le (dB h) t.mask) (DM h) hr;obtain⟨K,hK,e2⟩:=xc n (dB h % (t.mask+1)) (dB h) (mod_le _ _);refine⟨K,bg hK (Nat.mul_le_mul_left 10 hn), ?_⟩;rw [wR,e2];show t.slot (o5 t.mask n _).1=_;rw [e];exact EJ hd UW
theorem Jn{t:bC}(hd:t.dummies= #[]){hashAt:Nat->Int}{h:Int}: ∀(K:Nat) (p:cN) (fuel:Nat),nQ t p->t.slot (eM t K p).j= .empty->K < fuel->
  (∃j m,fY t hashAt h fuel p=some (.empty j none)/\t.slot j= .empty/\j<=t.mask/\j=(eM t m p).j/\ ∀m',m' < m-> ∃i,t.slot (eM t m' p).j= .live i/\hashAt i≠h)\/
  ∃j i next K' m,fY t hashAt h fuel p=some (.candidate j i next)/\t.slot j= .live i/\t.place[i]? =some j/\K' < K/\t.slot (eM t K' next).j= .empty/\nQ t next/\j=(eM t m p).j/\next=eM t (m+1) p/\ ∀m',m' < m-> ∃i,t.slot (eM t m' p).j= .live i/\hashAt i≠h
 | K,p,0,_,_,hf=>by omega
 | 0,p,fuel+1,hp,he,_=>by
  refine .inl ⟨p.j,0, ?_,he,hp.lt,rfl,fun m' h=>absurd h (iX _)⟩;show(match t.slot p.j with | .empty=>some (rG p.j p.dummy) | .dummy=>_ | .live i=>_)=_;rw [show t.slot p.j= .empty from he,hp.dm]
 | K+1,p,fuel+1,hp,he,hf=>by
  rcases BR hd p.j with hs | ⟨i,hs,hi⟩
  ·refine .inl ⟨p.j,0, ?_,hs,hp.lt,rfl,fun m' h=>absurd h (iX _)⟩;show(match t.slot p.j with | .empty=>some (rG p.j p.dummy) | .dummy=>_ | .live i=>_)=_;rw [hs,hp.dm]
  ·by_cases hh:hashAt i=h
   ·refine .inr ⟨p.j,i,t.advance p,K,0, ?_,hs,hi,gA _,he,hp.adv,rfl,rfl,fun m' h=>absurd h (iX _)⟩;show(match t.slot p.j with | .empty=>some (rG p.j p.dummy) | .dummy=>fY t hashAt h fuel (t.advance {p with dummy:=some p.j}) | .live i=>if hashAt i==h then some (SetTable.Met.candidate p.j i (t.advance p))else fY t hashAt h fuel (t.advance p))=_;rw [hs];dsimp only;rw [if_pos (by rw [hh]; exact beq_self_eq_true h)]
   ·have e:fY t hashAt h (fuel+1) p=fY t hashAt h fuel (t.advance p):=by
     show(match t.slot p.j with | .empty=>some (rG p.j p.dummy) | .dummy=>fY t hashAt h fuel (t.advance {p with dummy:=some p.j}) | .live i=>if hashAt i==h then some (SetTable.Met.candidate p.j i (t.advance p))else fY t hashAt h fuel (t.advance p))=_;rw [hs];dsimp only;rw [if_neg (by simpa using hh)]
    rw [e];have one: ∀m,(∀m',m' < m-> ∃i,t.slot (eM t m' (t.advance p)).j= .live i/\hashAt i≠h)-> ∀m',m' < m+1-> ∃i,t.slot (eM t m' p).j= .live i/\hashAt i≠h:=fun m hv m' Mx=>by
     cases m' with
     | zero=>exact⟨i,hs,hh⟩
     | succ m'=>exact hv m' (by omega)
    rcases Jn hd K (t.advance p) fuel (hp.adv) he (by omega)with⟨j,m,h1,h2,h3,h4,h5⟩ | ⟨j,i',next,K',m,h1,h2,h3,h4,h5,h6,h7,h8,h9⟩
    ·exact .inl ⟨j,m+1,h1,h2,h3,h4,one m h5⟩
    ·exact .inr ⟨j,i',next,K',m+1,h1,h2,h3,cZ h4,h5,h6,h7,h8,one m h9⟩
abbrev Bu(owner:Array (Option Nat))(j:Nat):Bool:= !(owner.getD j (some 0)).isNone
theorem DD{t:bC}{owner:Array (Option Nat)}: ∀(fuel i iw:Nat),i<=t.mask->(∃n,n < fuel/\Bu owner (o5 t.mask n (i,iw)).1=false)->
  ∃j K,jE t.mask owner fuel i iw=some j/\j=(eM t K (lj t.mask i iw)).j/\Bu owner j=false/\ ∀K',K' < K->Bu owner (eM t K' (lj t.mask i iw)).j=true
 | 0,i,iw,_,⟨n,hn,_⟩=>absurd hn (iX _)
 | fuel+1,i,iw,hi,⟨n,hn,he⟩=>by
  have W_:i<=cb t.mask i:=by unfold cb; split <;> omega
  have em:(lj t.mask i iw).more=cb t.mask i - i:=rfl;unfold jE;generalize hf:(bj (cb t.mask i+1 - i)).find? (fun k=>(owner.getD (i+k) (some 0)).isNone)=r;cases r with
  | some k=>
   dsimp only;obtain⟨p1,p2,p3⟩:=List.find?_range_eq_some.mp hf;have hk:k < cb t.mask i+1 - i:=cy.mp p2;have on: ∀k',k'<=k->(eM t k' (lj t.mask i iw)).j=i+k':=fun k' h=>B4 k' _ (by rw [em]; omega);refine⟨i+k,k,rfl,(on k (ay _)).symm, ?_,fun K' hK=> ?_⟩
   ·unfold Bu; rw [p1]; rfl
   ·rw [on K' (by omega)];have:=p3 K' hK;unfold Bu;simpa using this
  | none=>
   dsimp only;have nn: ∀k,k<=cb t.mask i - i->Bu owner (i+k)=true:=fun k hk=>by
    have:=List.find?_eq_none.mp hf k (cy.mpr (by omega));show(!(owner.getD (i+k) (some 0)).isNone)=true;rw [ML]at this;rw [this];rfl
   have n0:n≠0:=fun z=>by
    subst z;have q:=nn 0 (bK _);have U_:Bu owner i=false:=he;rw [Nat.add_zero,U_]at q;cases q
   obtain⟨m,rfl⟩: ∃m,n=m+1:=⟨n - 1,by omega⟩;have FD:(i * 5+1+iw / 32) % (t.mask+1)<=t.mask:=mod_le _ _;obtain⟨j,K,a,b,c,d⟩:=DD fuel _ (iw / 32) FD ⟨m,by omega,he⟩;have rl:=tM (t:=t) (cb t.mask i - i) (lj t.mask i iw) (nE hi) rfl;have Xu:eM t (cb t.mask i - i+1) (lj t.mask i iw)=lj t.mask ((i * 5+1+iw / 32) % (t.mask+1)) (iw / 32):=rl;refine⟨j,cb t.mask i - i+1+K,a,by rw [jT,Xu]; exact b,c,fun K' hK=> ?_⟩
   by_cases fj:K'<=cb t.mask i - i
   ·rw [B4 K' _ (by rw [em]; exact fj)];exact nn K' fj
   ·obtain⟨K2,rfl⟩: ∃K2,K'=cb t.mask i - i+1+K2:=⟨K' - (cb t.mask i - i+1),by omega⟩;rw [jT,Xu];exact d K2 (by omega)
structure Lay(t:bC)(hs:List Int)(owner:Array (Option Nat))(pos:List Nat):Prop where
 size:owner.size=t.mask+1
 len:pos.length<=hs.length
 at_: ∀(k j:Nat),pos[k]? =some j->owner[j]? =some (some k)
 back: ∀(j k:Nat),owner[j]? =some (some k)->pos[k]? =some j
 path: ∀(k j:Nat) (h:Int),pos[k]? =some j->hs[k]? =some h-> ∃K,j=(eM t K (t.probeStart h)).j/\ ∀K',K' < K->Bu owner (eM t K' (t.probeStart h)).j=true
theorem uB{owner:Array (Option Nat)}{j:Nat}(hj:j < owner.size):Bu owner j=true↔ ∃k,owner[j]? =some (some k):=by
 have e:owner.getD j (some 0)=owner[j]:=by simp [ot,hj]
 unfold Bu;rw [e,bE hj];cases owner[j] <;> simp
theorem Lay.free{t:bC}{hs:List Int}{owner:Array (Option Nat)}{pos:List Nat}(L:Lay t hs owner pos)(hn:pos.length<=t.mask): ∃r,r<=t.mask/\Bu owner r=false:=by
 apply ze;intro hx;have:=uU (t.mask+1) pos fun r hr=>by
  have pF:r < owner.size:=by rw [L.size]; exact hr
  have ho:Bu owner r=true:=by
   cases z:Bu owner r with
   | true=>rfl
   | false=>exact absurd ⟨r,iY.mp hr,z⟩ hx
  obtain⟨k,hk⟩:=(uB pF).mp ho;exact aR (L.back r k hk)
 omega
theorem Lay.step{t:bC}{hs:List Int}{owner:Array (Option Nat)}{pos:List Nat}{h:Int}(hm:HH t.mask)(L:Lay t hs owner pos)(hn:pos.length<=t.mask)(hh:hs[pos.length]? =some h):
  ∃j,jE t.mask owner (lN t.mask) (dB h % (t.mask+1)) (dB h)=some j/\Lay t hs (owner.setIfInBounds j (some pos.length)) (pos ++ [j]):=by
 obtain⟨r,hr,UW⟩:=L.free hn;obtain⟨n,XN,e⟩:=xi hm (mod_le (dB h) t.mask) (DM h) hr;obtain⟨j,K,a,b,c,d⟩:=DD (t:=t) (owner:=owner) (lN t.mask) (dB h % (t.mask+1)) (dB h) (mod_le _ _) ⟨n,by unfold lN; omega,by rw [e]; exact UW⟩;have jl:j<=t.mask:=by rw [b]; exact(nQ.eM (nE (mod_le _ _))).lt
 have js:j < owner.size:=by rw [L.size]; omega
 have fj:pos.length < hs.length:=(aB.mp hh).1;have nj: ∀k,owner[j]? ≠some (some k):=fun k z=>by
  have:=(uB js).mpr ⟨k,z⟩;rw [c]at this;cases this
 have get: ∀i,(owner.setIfInBounds j (some pos.length))[i]? =if j=i then some (some pos.length)else owner[i]? :=fun i=>by
  rw [Array.getElem?_setIfInBounds]
  by_cases q:j=i
  ·subst q; simp [js]
  ·simp [q]
 have grow: ∀i,Bu owner i=true->Bu (owner.setIfInBounds j (some pos.length)) i=true:=fun i hi=>by
  by_cases Kx:i < owner.size
  ·obtain⟨k,hk⟩:=(uB Kx).mp hi;refine(uB (by rw [Bi]; exact Kx)).mpr ⟨k, ?_⟩;rw [get,if_neg (fun z:j=i=>nj k (by rw [z]; exact hk))];exact hk
  ·unfold Bu at hi ⊢;have e1:(owner.setIfInBounds j (some pos.length)).getD i (some 0)=some 0:=by simp [ot,Kx]
   rw [e1];rfl
 refine⟨j,a,by rw [Bi]; exact L.size,by rw [aq,cj]; omega,fun k j' hk=> ?_,fun j' k hk=> ?_,fun k j' h' hk XR=> ?_⟩
 ·rw [get]
  by_cases q:k < pos.length
  ·rw [cS q]at hk;have:=L.at_ k j' hk;rw [if_neg (fun z:j=j'=>nj k (by rw [z]; exact this))];exact this
  ·have ek:k=pos.length:=by
    have:=(aB.mp hk).1;rw [aq,cj]at this;omega
   subst ek;rw [cL (ay _),gL]at hk;rw [if_pos (aF hk)]
 ·rw [get]at hk
  by_cases q:j=j'
  ·rw [if_pos q]at hk;have ek:pos.length=k:=aF (aF hk);rw [<-ek,cL (ay _),gL, <-q];rfl
  ·rw [if_neg q]at hk;have:=L.back j' k hk;rw [cS (aB.mp this).1];exact this
 ·by_cases q:k < pos.length
  ·rw [cS q]at hk;obtain⟨K0,x,y⟩:=L.path k j' h' hk XR;exact⟨K0,x,fun K' z=>grow _ (y K' z)⟩
  ·have ek:k=pos.length:=by
    have:=(aB.mp hk).1;rw [aq,cj]at this;omega
   subst ek;rw [cL (ay _),gL]at hk;have ej:j=j':=aF hk;have eh:h=h':=aF (hh.symm.trans XR);subst ej eh;exact⟨K,b,fun K' z=>grow _ (d K' z)⟩
def ql(m:Nat)(acc:Option (Array (Option Nat)×Nat))(h:Int):Option (Array (Option Nat)×Nat):=do
 let(owner,k)<-acc
 let j<-jE m owner (lN m) (dB h % (m+1)) (dB h)
 pure (owner.setIfInBounds j (some k),k+1)
theorem Ai{t:bC}(hm:HH t.mask){hs:List Int}(hl:hs.length<=t.mask): ∀(rest:List Int) (owner:Array (Option Nat)) (pos:List Nat),Lay t hs owner pos->hs.drop pos.length=rest->
  ∃J5 pos',rest.foldl (ql t.mask) (some (owner,pos.length))=some (J5,pos'.length)/\Lay t hs J5 pos'/\pos'.length=hs.length
 | [],owner,pos,L,e=>by
  refine⟨owner,pos,rfl,L, ?_⟩;have:=congrArg eS e;rw [bq,dI]at this;have:=L.len;omega
 | h::rest,owner,pos,L,e=>by
  have fj:pos.length < hs.length:=by
   have:=congrArg eS e;rw [bq,aK]at this;omega
  have hd:=iH fj;rw [e]at hd;have e1:hs[pos.length]? =some h:=by rw [ak fj]; exact congrArg some (List.cons.inj hd).1.symm
  obtain⟨j,a,L'⟩:=L.step hm (by omega) e1;obtain⟨o',p',b,c,d⟩:=Ai hm hl rest _ _ L' (by rw [aq,cj]; exact(List.cons.inj hd).2.symm);refine⟨o',p', ?_,c,d⟩;rw [wy];have:ql t.mask (some (owner,pos.length)) h=some (owner.setIfInBounds j (some pos.length),pos.length+1):=by
   unfold ql;show(jE t.mask owner _ _ _).bind _=_;rw [a];rfl
  rw [this];rw [aq,cj]at b;exact b
theorem AI{t:bC}(hm:HH t.mask){hs:Array Int}(hl:hs.size<=t.mask): ∃owner pos,KW t.mask hs=some owner/\Lay t hs.toList owner pos/\pos.length=hs.size:=by
 have L0:Lay t hs.toList (NN (t.mask+1) none) []:=by
  refine⟨by simp,bK _,fun k j h=>(by simp at h),fun j k h=> ?_,fun k j h x=>(by simp at x)⟩;have:=pz h;simp at this
 obtain⟨o,p,a,b,c⟩:=Ai hm (by simpa using hl) hs.toList _ _ L0 rfl;refine⟨o,p, ?_,b,by simpa using c⟩;unfold KW;have e:(hs.foldl (init:=some (NN (t.mask+1) (none:Option Nat),0)) (ql t.mask))=some (o,p.length):=by
  rw [<-Array.foldl_toList];exact a
 show(hs.foldl (ql t.mask) (some (NN (t.mask+1) none,0))).map (·.1)=some o;rw [e];rfl
structure Laid(m:Nat)(hs:Array Int)(place order:Array Nat):Prop where
 rise:o9 place
 le: ∀x∈place.toList,x<=m
 size:place.size=hs.size
 Sm:order.size=hs.size
 perm:order.toList.Perm (bj hs.size)
 path: ∀(t:bC) (q j k:Nat) (h:Int),t.mask=m->place[q]? =some j->order[q]? =some k->hs[k]? =some h-> ∃K,j=(eM t K (t.probeStart h)).j/\ ∀K',K' < K->(eM t K' (t.probeStart h)).j∈place.toList
theorem K3{m:Nat}(hm:HH m){hs:Array Int}(hl:hs.size<=m)(f mv:Nat)(led pl:Bool): ∃place order,SetTable.laid m f mv led pl hs=some ({mask:=m,place:=place,dummies:= #[],finger:=f,led:=led,moves:=mv,plain:=pl},order)/\Laid m hs place order:=by
 let t0:bC:={mask:=m,place:= #[],dummies:= #[],finger:=f,led:=led,moves:=mv,plain:=pl}
 obtain⟨owner,pos,a,L,pl'⟩:=AI (t:=t0) hm hl;have sz:owner.size=m+1:=L.size;generalize hlive:(bj (m+1)).filterMap (fun j=>(owner.getD j none).map ((j, ·):Nat->Nat×Nat))=live;have gd: ∀j,j < m+1->owner.getD j none=owner[j]?.getD none:=fun j hj=>by simp
 have mem: ∀j k,(j,k)∈live↔owner[j]? =some (some k):=fun j k=>by
  rw [<-hlive,Ko];constructor
  ·rintro⟨j',CY,e⟩;rw [cy]at CY;cases z:owner.getD j' none with
   | none=>rw [z]at e; cases e
   | some k'=>
    rw [z]at e;have e':(j',k')=(j,k):=aF e;cases e';have Kx:j < owner.size:=by omega
    have:owner.getD j none=owner[j]:=by simp [ot,Kx]
    rw [bE Kx, <-this,z]
  ·intro e;have Kx:j < owner.size:=(bT.mp e).1;refine⟨j,cy.mpr (by omega), ?_⟩;have:owner.getD j none=owner[j]:=by simp [ot,Kx]
   rw [this];have:owner[j]=some k:=(bT.mp e).2;rw [this];rfl
 have pw:live.Pairwise (fun x y=>x.1 < y.1):=by
  rw [<-hlive,List.pairwise_filterMap];refine List.Pairwise.imp ?_ List.pairwise_lt_range;intro x y Zs b hb b' ki;cases z:owner.getD x none with
  | none=>rw [z]at hb; cases hb
  | some k=>
   cases z':owner.getD y none with
   | none=>rw [z']at ki; cases ki
   | some k'=>
    rw [z]at hb;rw [z']at ki;cases hb;cases ki;exact Zs
 have nd:(live.map (·.2)).Nodup:=by
  unfold List.Nodup;rw [dq];refine List.Pairwise.imp_of_mem ?_ pw;intro x y hx hy fj he;have e1:=L.back x.1 x.2 ((mem x.1 x.2).mp hx);have e2:=L.back y.1 y.2 ((mem y.1 y.2).mp hy);rw [he]at e1;have:x.1=y.1:=aF (e1.symm.trans e2);omega
 have pm:(live.map (·.2)).Perm (bj hs.size):=by
  rw [List.perm_ext_iff_of_nodup nd List.nodup_range];intro k;rw [cy,aE];constructor
  ·rintro⟨x,hx,rfl⟩;have:=(aB.mp (L.back x.1 x.2 ((mem x.1 x.2).mp hx))).1;omega
  ·intro hk;have kW:k < pos.length:=by omega
   exact⟨(pos[k],k),(mem _ _).mpr (L.at_ k pos[k] (ak kW)),rfl⟩
 have ln:live.length=hs.size:=by
  have:=pm.length_eq
  rwa [ae,bS]at this
 refine⟨(live.map (·.1)).toArray,(live.map (·.2)).toArray, ?_, ?_⟩
 ·unfold SetTable.laid;have a':KW m hs=some owner:=a;rw [a'];show some _=some _;rw [<-hlive]
 ·refine⟨by unfold o9; rw [dq]; exact pw,fun x hx=> ?_,by simpa using ln,by simpa using ln,pm,fun t q j k h ht hq ho hh=> ?_⟩
  ·have S3:x∈live.map (·.1):=hx;obtain⟨y,hy,rfl⟩:=aE.mp S3;have:=(bT.mp ((mem y.1 y.2).mp hy)).1;omega
  ·have JW:(live.map (·.1))[q]? =some j:=by simpa using hq
   have yO:(live.map (·.2))[q]? =some k:=by simpa using ho
   rw [aA]at JW yO;cases z:live[q]? with
   | none=>rw [z]at JW; cases JW
   | some x=>
    rw [z]at JW yO;cases JW;cases yO;have hx:=aR z;have pk:=L.back x.1 x.2 ((mem x.1 x.2).mp hx);obtain⟨K,c,d⟩:=L.path x.2 x.1 h pk (by rw [bf]; exact hh);have mk:t.mask=t0.mask:=ht;refine⟨K,by rw [ua mk,qZ mk]; exact c,fun K' hK=> ?_⟩;rw [ua mk,qZ mk];have oc:=d K' hK;have jl:(eM t0 K' (t0.probeStart h)).j < owner.size:=by
     have:=(nQ.eM (t:=t0) (k:=K') (z5 h)).lt;have e0:t0.mask=m:=rfl;omega
    obtain⟨k2,pZ⟩:=(uB jl).mp oc;show _∈live.map (·.1);exact aE.mpr ⟨(_,k2),(mem _ k2).mpr pZ,rfl⟩
section
variable {prog:aH}{w:aW}
def ON(o:Obj):Prop:=o.cls= .type "tuple"/\ ∃items n,o.data= .seq items n
def sY(h h':aY):Prop:= ∀c o,ON o->h.get? c=some o->h'.get? c=some o
structure nF(prog:aH)(w:aW)(Ky:Type) [DecidableEq Ky]where
 is:aY->Ky->ai->Prop
 hash:Ky->Int
 draws:Ky->Nat
 room:bA->Prop
 inj: ∀{h:aY} {a:ai} {x y:Ky},is h x a->is h y a->x=y
 keep: ∀{h h':aY} {k:Ky} {a:ai},is h k a->sY h h'->is h' k a
 lt: ∀{h:aY} {k:Ky} {a:ai},is h k a-> ∃o,ON o/\h.get? a=some o
 eqB: ∀{A:bA} {E:af->aj->Prop} {s:aj} {x y:Ky} {a b:ai} {Q:Bool->aj->Prop},room A->is s.heap x a->is s.heap y b->Q (decide (x=y)) s->av (aC prog w) A (eqBool (.ref a) (.ref b)) Q E s
 Hd: ∀{A:bA} {E:af->aj->Prop} {s:aj} {k:Ky} {a:ai} {Q:Int->aj->Prop},room A->is s.heap k a->Q (hash k) {s with toks:=s.toks+draws k}->av (aC prog w) A (pyHash (.ref a)) Q E s
 quiet: ∀{A:bA} {E:af->aj->Prop} {s:aj} {k:Ky} {a:ai} {Q:Bool->aj->Prop},is s.heap k a->Q true s->av (aC prog w) A (BJ 8 (.ref a)) Q E s
 K9: ∀{A:bA} {E:af->aj->Prop} {s:aj} {k:Ky} {a:ai} {Q:Bool->aj->Prop},is s.heap k a->Q false s->av (aC prog w) A (fZ 8 (.ref a)) Q E s
 Tf: ∀{A:bA} {E:af->aj->Prop} {s:aj} {k:Ky} {a:ai} {Q:Bool->aj->Prop},is s.heap k a->Q true s->av (aC prog w) A (ky 8 (.ref a)) Q E s
variable {Ky:Type} [DecidableEq Ky]
structure N9(κ:nF prog w Ky)(led:Bool)(h:aY)(a:ai)(o:Obj)(es:Array (Int×af))(ep:Nat)(t:bC):Prop where
 get:h.get? a=some o
 ex:o.ExactSet
 dat:o.data= .set es ep t
 mask:HH t.mask
 HE:t.dummies= #[]
 size:t.place.size=es.size
 plain:t.plain=true
 led:t.led=led
 iT:es.size<=120
 fit:es.size<=t.mask
 pl:o9 t.place
 Wh: ∀x∈t.place.toList,x<=t.mask
 el: ∀e∈es.toList, ∃ks b,e=(κ.hash ks,au b)/\κ.is h ks b
 on: ∀(i:Nat) (e:Int×af),es[i]? =some e-> ∃K,t.place[i]? =some (eM t K (t.probeStart e.1)).j/\ ∀K',K' < K->t.slot (eM t K' (t.probeStart e.1)).j≠ .empty
 nd: ∃kk:List Ky,kk.length=es.size/\kk.Nodup/\ ∀(i:Nat) (k:Ky),kk[i]? =some k-> ∃b,es[i]? =some (κ.hash k,au b)/\κ.is h k b
structure PS(κ:nF prog w Ky)(led:Bool)(h:aY)(a:ai)(o:Obj)(es:Array (Int×af))(ep:Nat)(t:bC):Prop extends N9 κ led h a o es ep t where
 room:es.size * 5 < t.mask * 3
variable {κ:nF prog w Ky}{led:Bool}{a:ai}{o:Obj}{es:Array (Int×af)}{ep:Nat}{t:bC}{A:bA}{E:af->aj->Prop}{s:aj}
theorem N9.fits(S:N9 κ led s.heap a o es ep t):t.fits es.size=true:=by
 unfold SetTable.fits Bj;rw [S.size,S.HE];have:=S.fit;simp;omega
theorem N9.state{Q:(Array (Int×af)×Nat×bC)->aj->Prop}(S:N9 κ led s.heap a o es ep t)(h:Q (es,ep,t) s):av (aC prog w) A (setState a) Q E s:=
 wpAny_setState_of S.get S.dat S.fits h
theorem G_{ks:Ky}{b:ai}{Q:Bool->aj->Prop}(hk:κ.is s.heap ks b): ∀(l:List af),(∀v∈l, ∃wm b',v=au b'/\κ.is s.heap wm b')->Q false s->av (aC prog w) A (searchCouldBeSeen (.ref b) l) Q E s:=by
 intro l hl h;unfold searchCouldBeSeen;have loop: ∀(l:List af),(∀v∈l, ∃wm b',v=au b'/\κ.is s.heap wm b')-> ∀body:af->Option Bool×Unit->Sem (ForInStep (Option Bool×Unit)),
   (∀wm b' (R:ForInStep (Option Bool×Unit)->aj->Prop),κ.is s.heap wm b'->R (.yield (none,())) s->av (aC prog w) A (body (.ref b') (none,())) R E s)->
   av (aC prog w) A (forIn l ((none,()):Option Bool×Unit) body) (fun r s'=>r=(none,())/\s'=s) E s:=by
  intro l
  induction l with
  | nil=>intro _ body hb; rw [eT]; exact ag ⟨rfl,rfl⟩
  | cons v l ih=>
   intro hv body hb;rw [cJ];obtain⟨wm,b',rfl,kW⟩:=hv v (.head _);exact aa (hb wm b' _ kW (ih (fun x hx=>hv x (.tail _ hx)) body hb))
 refine aa (b_ (loop l hl _ fun wm b' R kW hR=> ?_) (fun r s' hr=> ?_) fun _ _ x=>x)
 ·dsimp only
  split
  ·exact ag hR
  ·refine aa (κ.quiet hk ?_);simp only [dZ,aZ,if_false];refine aa (κ.quiet kW ?_);simp only [dZ,aZ,if_false];refine aa (κ.K9 hk ?_);simp only [aZ,if_false];refine aa (κ.K9 kW ?_);simp only [aZ,if_false];exact ag hR
 ·obtain⟨rfl,rfl⟩:=hr;exact ag h
theorem Ls{t:bC}{j i:Nat}(h:t.slot j= .live i)(hp:t.place[i]? =some j):i < t.place.size:=(bT.mp hp).1
def HY(κ:nF prog w Ky)(h:aY)(es:Array (Int×af))(ks:Ky)(i:Nat):Prop:= ∀b,es[i]? =some (κ.hash ks,au b)-> ¬κ.is h ks b
theorem wJ(hu:κ.room A)(S:PS κ led s.heap a o es ep t){ks:Ky}{b:ai}(hk:κ.is s.heap ks b){Q:SetFound->aj->Prop}
  (h1:(∃b',(κ.hash ks,au b')∈es.toList/\κ.is s.heap ks b')->Q (.there none) s)(h2: ∀j m,t.slot j= .empty->j<=t.mask->j=(eM t m (t.probeStart (κ.hash ks))).j->(∀m',m' < m-> ∃i,t.slot (eM t m' (t.probeStart (κ.hash ks))).j= .live i/\HY κ s.heap es ks i)->Q (.free j false) s):
  ∀(K fuel:Nat) (xn:Option cN) (n0:Nat),xn.getD (t.probeStart (κ.hash ks))=eM t n0 (t.probeStart (κ.hash ks))->(∀m',m' < n0-> ∃i,t.slot (eM t m' (t.probeStart (κ.hash ks))).j= .live i/\HY κ s.heap es ks i)->K < fuel->nQ t (xn.getD (t.probeStart (κ.hash ks)))->t.slot (eM t K (xn.getD (t.probeStart (κ.hash ks)))).j= .empty->K<=10 * (13+t.mask)->
   av (aC prog w) A (Bk a (.ref b) (κ.hash ks) true fuel xn) Q E s
 | K,0,_,_,_,_,hf,_,_,_=>by omega
 | K,fuel+1,xn,n0,FI,MA,hf,hp,he,h20=>by
  unfold Bk;refine aa (S.state ?_);dsimp only;have hg:t.gaveWay=false:=by unfold SetTable.gaveWay; rcases S.mask with z | z | z | z <;> rw [z] <;> rfl
  rw [hg];simp only [aZ,if_false];generalize Pf:t.probe _ _ _=met;have Sd:10 * lN t.mask=10 * (t.mask+15):=rfl;have Xx: ∀m:Nat,(∀m',m' < m-> ∃i,t.slot (eM t m' (xn.getD (t.probeStart (κ.hash ks)))).j= .live i/\(es[i]?.map (·.1)).getD 0≠κ.hash ks)-> ∀m',m' < n0+m-> ∃i,t.slot (eM t m' (t.probeStart (κ.hash ks))).j= .live i/\HY κ s.heap es ks i:=fun m hv m' Mx=>by
   by_cases fj:m' < n0
   ·exact MA m' fj
   ·obtain⟨i,RB,KH⟩:=hv (m' - n0) (by omega);rw [FI, <-jT,show n0+(m' - n0)=m' by omega]at RB;exact⟨i,RB,fun b hb _=>KH (by rw [hb]; rfl)⟩
  rcases Jn S.HE (hashAt:=_) (h:=κ.hash ks) K _ (10 * lN t.mask) hp he (by rw [Sd]; omega)with⟨j,m,e,hj,Vk,O6,hv⟩ | ⟨j,i,next,K',m,e,hj,hi,hK,U_,qU,O6,hnx,hv⟩
  ·cases Pf.symm.trans e;exact ag (h2 j (n0+m) hj Vk (by rw [O6,FI, <-jT]) (Xx m hv))
  ·cases Pf.symm.trans e;dsimp only;have fj:i < es.size:=by rw [<-S.size]; exact Ls hj hi
   have hm:es[i]∈es.toList:=by simp
   obtain⟨wm,b',ee,kW⟩:=S.el _ hm;have O4:es[i]? =some (κ.hash wm,au b'):=by rw [bE fj,ee]
   rw [ee]at hm;have main:av (aC prog w) A (match es[i]? with
     | some (_,y)=>do
      let equal<-kX [y] (eqBool y (au b))
      let VT<-setState a
      if(true&&equal)=true then pure (SetFound.there none)
       else
        match VT.2.snd.sameMemory t.moves t.mask with
        | some same=>do
         let RY<-match if same=true then VT.2.snd.slot j else SetTable.Slot.empty with
          | SetTable.Slot.live i'=>
           match VT.fst[i']? with
           | some (_,y')=>do
            let dG<-isSame y' y
            pure (if dG=true then some i' else none)
           | none=>pure none
          | _=>pure none
         match RY with
          | none=>do
           rule "set.search.anew"
           Bk a (au b) (κ.hash ks) true fuel none
          | some i'=>
           if equal=true then pure (SetFound.there (some i'))
           else Bk a (au b) (κ.hash ks) true fuel (some next)
        | _=>ie "set.changed-during-lookup:is-the-new-block-at-the-old-address"
     | _=>ie "internal:set-entry") Q E s:=by
    rw [O4];dsimp only;refine aa (bP (κ.eqB hu kW hk ?_));refine aa (S.state ?_)
    by_cases O9:wm=ks
    ·subst O9;rw [decide_eq_true rfl,if_pos (show(true&&true)=true from rfl)];exact ag (h1 ⟨b',hm,kW⟩)
    ·rw [decide_eq_false O9,if_neg (show ¬(true&&false)=true by decide)];have Zm:t.sameMemory t.moves t.mask=some true:=by unfold SetTable.sameMemory; rw [if_pos (beq_self_eq_true _)]
     dsimp only;rw [Zm];dsimp only;rw [if_pos rfl,hj];dsimp only;rw [O4];dsimp only;refine aa (wpAny_isSame_ref_self ?_);rw [if_pos rfl];refine aa (ag ?_);dsimp only;rw [if_neg (by decide)];refine wJ hu S hk h1 h2 K' fuel (some next) (n0+(m+1)) (by rw [MN,hnx,FI, <-jT]) (fun m' Mx=> ?_) (by omega) qU U_ (by omega)
     by_cases fj:m' < n0+m
     ·exact Xx m hv m' fj
     ·have em:m'=n0+m:=by omega
      subst em;refine⟨i,by rw [jT, <-FI, <-O6]; exact hj,fun b2 PZ pZ=> ?_⟩;rw [O4]at PZ;have e2:b'=b2:=by injection PZ with z; injection z with _ z; injection z
      rw [<-e2]at pZ;exact O9 (κ.inj kW pZ)
   by_cases hl:t.led=true
   ·rw [hl];simp only [dZ,aZ,if_false];exact main
   ·rw [ML]at hl;rw [hl];simp only [Bool.not_false,if_true];refine aa (G_ hk _ (fun v hv=> ?_) ?_)
    ·obtain⟨x,hx,rfl⟩:=aE.mp hv;have S3:x∈es.toList:=by
      have:x∈es/\x.fst=κ.hash ks:=by simpa using hx
      simpa using this.1
     obtain⟨ks2,b2,rfl,pZ⟩:=S.el x S3;exact⟨ks2,b2,rfl,pZ⟩
    ·simp only [aZ,if_false];exact main
theorem pH{α:Type}(xs:Array α)(p:Nat)(x:α):(bL xs p x).toList=xs.toList.take p ++ x::xs.toList.drop p:=by
 unfold bL;simp [ic,dg]
theorem gV{α:Type}(xs:Array α)(p:Nat)(x:α):(bL xs p x).size=xs.size+1:=by
 rw [<-ao,pH,aq,aK,bh,bq,ao];omega
theorem qt{α:Type}(xs:Array α)(p:Nat)(x e:α):e∈(bL xs p x).toList↔e∈xs.toList\/e=x:=by
 rw [pH,bO,aV];have h:=ba p xs.toList;constructor
 ·rintro(h1 | h1 | h1)
  ·exact .inl (f6 h1)
  ·exact .inr h1
  ·exact .inl (fX h1)
 ·rintro(h1 | h1)
  ·rw [<-h,bO]at h1;exact h1.elim .inl fun z=> .inr (.inr z)
  ·exact .inr (.inl h1)
theorem nF.at(κ:nF prog w Ky){h h':aY}{a b:ai}{ks:Ky}{o:Obj}{es:Array (Int×af)}{ep:Nat}{t:bC}(x:κ.is h ks b)(ho:h.get? a=some o)(hd:o.data= .set es ep t)(sb:bR a h h'):κ.is h' ks b:=κ.keep x fun c o' ⟨_,items,n,BB⟩ e=>by
 have ja:c≠a:=by
  rintro rfl;rw [ho]at e;cases e;rw [hd]at BB;cases BB
 exact(sb.2 c ja).trans e
theorem oJ{α:Type}{xs:Array α}{p:Nat}(hp:p<=xs.size)(x:α)(i:Nat):(bL xs p x)[i]? =if i < p then xs[i]? else if i=p then some x else xs[i - 1]? :=by
 rw [<-bf,pH,FU,bh,ao,NO hp]
 by_cases h1:i < p
 ·rw [if_pos h1,if_pos h1,rH,if_pos h1,bf]
 ·rw [if_neg h1,if_neg h1]
  by_cases h2:i=p
  ·subst h2;rw [if_pos rfl,gL];rfl
  ·rw [if_neg h2,show i - p=(i - p - 1)+1 by omega,cM,List.getElem?_drop,bf];congr 1;omega
theorem nN(t:bC)(j:Nat): ∀(k:Nat) (p:cN),eM (t.put j).fst k p=eM t k p
 | 0,_=>rfl
 | k+1,p=>by
  show eM (t.put j).fst k ((t.put j).fst.advance p)=eM t k (t.advance p);rw [nN t j k];rfl
theorem zA{α:Type}{es:Array α}{order:Array Nat}(hp:order.toList.Perm (bj es.size))(hs:order.size=es.size):(order.filterMap (es[·]?)).size=es.size/\(order.filterMap (es[·]?)).toList.Perm es.toList/\ ∀(q k:Nat),order[q]? =some k->(order.filterMap (es[·]?))[q]? =es[k]? :=by
 have lt: ∀k∈order.toList,k < es.size:=fun k hk=>cy.mp (hp.mem_iff.mp hk);have e1: ∀l:List Nat,(∀k∈l,k < es.size)->(l.filterMap (es[·]?)).length=l.length/\ ∀(q k:Nat),l[q]? =some k->(l.filterMap (es[·]?))[q]? =es[k]? :=fun l=>by
  induction l with
  | nil=>exact fun _=>⟨rfl,fun q k h=>by simp at h⟩
  | cons a l ih=>
   intro h;obtain⟨i1,i2⟩:=ih fun k hk=>h k (.tail _ hk);have ha:=h a (.head _);have ea:es[a]? =some es[a]:=bE ha;rw [List.filterMap_cons_some ea];refine⟨by rw [aK,aK,i1],fun q k hq=> ?_⟩;cases q with
   | zero=>
    have:a=k:=by simpa using hq
    subst this;exact ea.symm
   | succ q=>exact i2 q k (by simpa using hq)
 have er:(bj es.size).filterMap (es[·]?)=es.toList:=by
  apply e7;intro q
  by_cases hq:q < es.size
  ·rw [(e1 (bj es.size) fun k hk=>cy.mp hk).2 q q (by simp [hq])];simp
  ·rw [bp (by rw [(e1 (bj es.size) fun k hk=>cy.mp hk).1,bS]; omega),bp (by simpa using hq)]
 obtain⟨a,b⟩:=e1 order.toList lt;have tl:(order.filterMap (es[·]?)).toList=order.toList.filterMap (es[·]?):=by simp
 refine⟨?_, ?_,fun q k hq=> ?_⟩
 ·rw [<-ao,tl,a,ao,hs]
 ·rw [tl, <-er];exact hp.filterMap _
 ·rw [<-bf,tl];exact b q k (by rw [bf]; exact hq)
theorem HP(S:N9 κ led s.heap a o es ep t)(hf:t.tooFull=true)(hr:es.size * 5 < t.mask * 3+5){Q:Unit->aj->Prop}
  (h: ∀(h':aY) (o':Obj) (qS:Array (Int×af)) (t':bC),bR a s.heap h'->PS κ led h' a o' qS (ep+1) t'->qS.toList.Perm es.toList->Q () {s with heap:=h'}):
  av (aC prog w) A (setRelay a (qd es.size)) Q E s:=by
 have iT:=S.iT;have Q8:t.mask * 3<=es.size * 5:=by
  unfold SetTable.tooFull Bj at hf;rw [S.size,S.HE]at hf;simpa using hf
 obtain⟨m,em,hm,Ry,Q6⟩: ∃m,SetTable.sizeAbove (qd es.size)=m+1/\HH m/\es.size<=m/\es.size * 5 < m * 3:=by
  rcases S.mask with z | z | z | z
  ·rw [z]at Q8 hr;have:es.size=5:=by omega
   rw [this];exact⟨31,by decide, .inr (.inl rfl),by decide,by decide⟩
  ·rw [z]at Q8 hr;have:es.size=19:=by omega
   rw [this];exact⟨127,by decide, .inr (.inr (.inl rfl)),by decide,by decide⟩
  ·rw [z]at Q8 hr;have:es.size=77:=by omega
   rw [this];exact⟨511,by decide, .inr (.inr (.inr rfl)),by decide,by decide⟩
  ·rw [z]at Q8;omega
 have V3:m<=511:=by rcases hm with z | z | z | z <;> omega
 unfold setRelay;refine aa (S.state ?_);dsimp only;rw [if_neg (by rw [em,eF]; omega)];obtain⟨place,order,hl,L⟩:=K3 hm (hs:=es.map (·.1)) (by simpa using Ry) t.finger (t.movedTo m) t.led t.plain;have A_:t.relaid (es.map (·.1)) (qd es.size)=some ({mask:=m,place:=place,dummies:= #[],finger:=t.finger,led:=t.led,moves:=t.movedTo m,plain:=t.plain},order):=by
  unfold SetTable.relaid;rw [em];exact hl
 have Sm:order.size=es.size:=by rw [L.Sm]; simp
 have Xn:order.toList.Perm (bj es.size):=by have:=L.perm; simpa using this
 obtain⟨g1,g2,g3⟩:=zA Xn Sm;refine aa ?_;rw [A_];generalize ND:order.filterMap (es[·]?)=qS at g1 g2 g3;show av (aC prog w) A (do
  let RS:=order.filterMap (es[·]?)
  if RS.size !=es.size then ie "internal:set-table-lost-an-element"
  pure (RS,({mask:=m,place:=place,dummies:= #[],finger:=t.finger,led:=t.led,moves:=t.movedTo m,plain:=t.plain}:bC))) _ E s
 dsimp only;rw [ND,if_neg (by rw [g1]; simp)];refine ag ?_;dsimp only;generalize htt:({mask:=m,place:=place,dummies:= #[],finger:=t.finger,led:=t.led,moves:=t.movedTo m,plain:=t.plain}:bC)=t';have tm:t'.mask=m:=by rw [<-htt]
 have tp:t'.place=place:=by rw [<-htt]
 have td:t'.dummies= #[]:=by rw [<-htt]
 have zc:=bG s.heap a (rJ qS t');refine wpAny_storeSet_of S.get S.dat (h _ {o with data:= .set qS (ep+1) t'} qS t' zc ⟨⟨?_,S.ex,rfl,by rw [tm]; exact hm,td,by rw [tp,L.size,g1]; simp,by rw [<-htt]; exact S.plain,by rw [<-htt]; exact S.led,by rw [g1]; exact iT,by rw [g1,tm]; exact Ry,by rw [tp]; exact L.rise,by rw [tp,tm]; exact L.le,fun e he=> ?_,fun q e he=> ?_, ?_⟩,by rw [g1,tm]; exact Q6⟩ g2) (by rw [g1,eF]; omega)
 ·have:=dw (rJ qS t') S.get (by rw [putSet_of _ _ S.dat]; rfl);rw [putSet_of _ _ S.dat]at this;exact this
 ·obtain⟨wm,b',e1,kW⟩:=S.el e (g2.mem_iff.mp he);exact⟨wm,b',e1,κ.at kW S.get S.dat zc⟩
 ·have hq:q < order.size:=by
   have:=(bT.mp he).1;omega
  have ho:order[q]? =some order[q]:=bE hq;have hp:q < place.size:=by rw [L.size]; simp; omega
  have hpl:place[q]? =some place[q]:=bE hp;have si:=g3 q _ ho;rw [he]at si;have hh:(es.map (·.1))[order[q]]? =some e.1:=by rw [Array.getElem?_map, <-si]; rfl
  obtain⟨K,k1,k2⟩:=L.path t' q place[q] order[q] e.1 tm hpl ho hh;refine⟨K,by rw [tp,hpl,k1],fun K' hK=> ?_⟩;rw [oO td (by rw [tp]; exact L.rise),tp];exact k2 K' hK
 ·obtain⟨kk,k1,k2,k3⟩:=S.nd;have kl:kk.toArray.size=es.size:=by simpa using k1
  obtain⟨n1,n2,n3⟩:=zA (es:=kk.toArray) (order:=order) (by rw [kl]; exact Xn) (by rw [kl]; exact Sm);refine⟨(order.filterMap (kk.toArray[·]?)).toList,by rw [ao,n1,kl,g1], ?_,fun q k hk=> ?_⟩
  ·have:(order.filterMap (kk.toArray[·]?)).toList.Perm kk:=by simpa using n2
   exact this.nodup_iff.mpr k2
  ·rw [bf]at hk;have hq:q < order.size:=by
    have:=(bT.mp hk).1;omega
   have ho:order[q]? =some order[q]:=bE hq;rw [n3 q _ ho]at hk;obtain⟨b',e1,e2⟩:=k3 order[q] k (by simpa using hk);exact⟨b',by rw [g3 q _ ho,e1],κ.at e2 S.get S.dat zc⟩
theorem OT(hu:κ.room A)(S:PS κ led s.heap a o es ep t)(h3:es.size < 120){ks:Ky}{b:ai}(hk:κ.is s.heap ks b){Q:Bool->aj->Prop}
  (h1:(∃b',(κ.hash ks,au b')∈es.toList/\κ.is s.heap ks b')->Q false s)
  (h2: ∀(h':aY) (o':Obj) (qS:Array (Int×af)) (Pc:Nat) (t':bC),bR a s.heap h'->PS κ led h' a o' qS Pc t'->(∀e,e∈qS.toList↔e∈es.toList\/e=(κ.hash ks,au b))->qS.size=es.size+1->Q true {s with heap:=h'}):
  av (aC prog w) A (setAddHashed a (.ref b) (κ.hash ks)) Q E s:=by
 unfold setAddHashed setAddHashedIn;refine bP (aa (S.state ?_));dsimp only;have ZQ:byScan (.ref b) es=false:=rfl;rw [ZQ];simp only [aZ,if_false];have p1:=z5 (t:=t) (κ.hash ks);obtain⟨K,hK,he⟩:=reach S.mask S.HE (by rw [S.size]; exact S.fit) (κ.hash ks);have V3:t.mask<=511:=by rcases S.mask with z | z | z | z <;> omega
 refine aa ?_;unfold setSearch;refine wJ hu S hk (fun hx=> ?_) (fun j m hj Vk O6 MA=> ?_) K 100000 none 0 rfl (fun m' h=>absurd h (iX _)) (by omega) p1 he hK
 ·exact ag (h1 hx)
 ·dsimp only;refine aa (S.state ?_);have hpl:(t.put j).fst.plain=true:=S.plain;rw [if_pos hpl];refine aa (κ.Tf hk ?_);rw [if_pos rfl];have hsz:=S.size;have KA:(t.put j).fst.place.size=es.size+1:=by
   show(bL t.place _ j).size=_;rw [gV,hsz]
  have Vo:(t.put j).fst.dummies= #[]:=by
   show(if SetTable.has t.dummies j then SetTable.eraseAt t.dummies (bH t.dummies j)else t.dummies)= #[];rw [S.HE];rfl
  have Xm:(t.put j).fst.mask=t.mask:=rfl;have rm:=S.room;have fl:=S.fit;have Z8:j∉t.place.toList:=fun z=>by
   have:=(oO S.HE S.pl).mpr z;exact this hj
  refine aa (wpAny_storeSet_of S.get S.dat ?_ (by rw [gV,eF]; show es.size+1<=_; omega));have QU:o9 (t.put j).fst.place:=T5 S.pl Z8;have VB: ∀x∈(t.put j).fst.place.toList,x<=(t.put j).fst.mask:=fun x hx=>by
   rcases(qt _ _ _ _).mp hx with hx | rfl
   ·exact S.Wh x hx
   ·exact Vk
  have hle:(t.put j).snd<=t.place.size:=(Qb S.pl j).le;have RQ:(t.put j).snd<=es.size:=by rw [<-hsz]; exact hle
  have gp: ∀i,(t.put j).fst.place[i]? =if i < (t.put j).snd then t.place[i]? else if i=(t.put j).snd then some j else t.place[i - 1]? :=oJ hle j;have ge: ∀i,(bL es (t.put j).snd (κ.hash ks,au b))[i]? =if i < (t.put j).snd then es[i]? else if i=(t.put j).snd then some (κ.hash ks,au b)else es[i - 1]? :=oJ RQ _;have full: ∀r,t.slot r≠ .empty->(t.put j).fst.slot r≠ .empty:=fun r hr=>by
   rw [oO Vo QU];exact(qt _ _ _ _).mpr (.inl ((oO S.HE S.pl).mp hr))
  have alone: ∀i b',es[i]? =some (κ.hash ks,au b')-> ¬κ.is s.heap ks b':=fun i b' hi kW=>by
   obtain⟨Ki,k1,k2⟩:=S.on i _ hi;have sl:=Am S.pl k1
   by_cases fj:Ki < m
   ·obtain⟨i',v1,v2⟩:=MA Ki fj;rw [sl]at v1;cases v1;exact v2 b' hi kW
   ·by_cases heq:Ki=m
    ·subst heq;rw [<-O6,hj]at sl;cases sl
    ·exact k2 m (by omega) (by rw [<-O6]; exact hj)
  have zc:=bG s.heap a (rJ (bL es (t.put j).snd (κ.hash ks,au b)) (t.put j).fst);have S1:N9 κ led (s.heap.update a (rJ (bL es (t.put j).snd (κ.hash ks,au b)) (t.put j).fst)) a {o with data:= .set (bL es (t.put j).snd (κ.hash ks,au b)) (ep+1) (t.put j).fst} (bL es (t.put j).snd (κ.hash ks,au b)) (ep+1) (t.put j).fst:=by
   refine⟨?_, ?_,rfl,S.mask,Vo,by rw [KA,gV],hpl,S.led,by rw [gV]; omega,by rw [gV,Xm]; rcases S.mask with z | z | z | z <;> omega,QU,VB,fun e he=> ?_,fun i e he=> ?_, ?_⟩
   ·have:=dw (rJ (bL es (t.put j).snd (κ.hash ks,au b)) (t.put j).fst) S.get (by rw [putSet_of _ _ S.dat]; rfl);rw [putSet_of _ _ S.dat]at this;exact this
   ·exact S.ex
   ·rcases(qt _ _ _ _).mp he with he | rfl
    ·obtain⟨wm,b',e1,kW⟩:=S.el e he;exact⟨wm,b',e1,κ.at kW S.get S.dat zc⟩
    ·exact⟨ks,b,rfl,κ.at hk S.get S.dat zc⟩
   ·have old: ∀i',es[i']? =some e->(t.put j).fst.place[i]? =t.place[i']? -> ∃K,(t.put j).fst.place[i]? =some (eM (t.put j).fst K ((t.put j).fst.probeStart e.1)).j/\ ∀K',K' < K->(t.put j).fst.slot (eM (t.put j).fst K' ((t.put j).fst.probeStart e.1)).j≠ .empty:=fun i' h1 h2=>by
     obtain⟨K,k1,k2⟩:=S.on i' e h1;refine⟨K,by rw [h2,k1,nN]; rfl,fun K' VC=> ?_⟩;rw [nN];exact full _ (k2 K' VC)
    rw [ge i]at he
    split at he
    ·rename_i fj;exact old i he (by rw [gp i,if_pos fj])
    ·rename_i fj
     split at he
     ·rename_i heq;cases he;refine⟨m,by rw [gp i,if_neg fj,if_pos heq,nN,O6]; rfl,fun K' VC=> ?_⟩;rw [nN];obtain⟨i',v1,_⟩:=MA K' VC;exact full _ (by show t.slot (eM t K' (t.probeStart (κ.hash ks))).j≠_; rw [v1]; intro z; cases z)
     ·rename_i heq;exact old (i - 1) he (by rw [gp i,if_neg fj,if_neg heq])
   ·obtain⟨kk,k1,k2,k3⟩:=S.nd;have U8:ks∉kk:=fun Mx=>by
     obtain⟨i,hi,e1⟩:=eE Mx;obtain⟨b',e2,e3⟩:=k3 i ks (by rw [ak hi,e1]);exact alone i b' e2 e3
    have hlk:(t.put j).snd<=kk.length:=by rw [k1]; exact RQ
    refine⟨kk.take (t.put j).snd ++ ks::kk.drop (t.put j).snd, ?_, ?_,fun i k kW=> ?_⟩
    ·rw [aq,aK,bh,bq,gV];omega
    ·have hp:(kk.take (t.put j).snd ++ ks::kk.drop (t.put j).snd).Perm (ks::kk):=by
      refine MO.trans ?_;rw [ba]
     exact hp.symm.nodup (eG.mpr ⟨U8,k2⟩)
    ·rw [FU,bh,NO hlk]at kW;have keep: ∀(i':Nat) (b':ai),es[i']? =some (κ.hash k,au b')->κ.is s.heap k b'->(bL es (t.put j).snd (κ.hash ks,au b))[i]? =es[i']? -> ∃b',(bL es (t.put j).snd (κ.hash ks,au b))[i]? =some (κ.hash k,au b')/\κ.is _ k b':=fun i' b' h1 h2 h3=>⟨b',by rw [h3,h1],κ.at h2 S.get S.dat zc⟩
     by_cases fj:i < (t.put j).snd
     ·rw [if_pos fj,rH,if_pos fj]at kW;obtain⟨b',e1,e2⟩:=k3 i k kW;exact keep i b' e1 e2 (by rw [ge i,if_pos fj])
     ·rw [if_neg fj]at kW
      by_cases heq:i=(t.put j).snd
      ·rw [heq,gL]at kW;have:ks=k:=by simpa using kW
       subst this;exact⟨b,by rw [ge i,if_neg fj,if_pos heq],κ.at hk S.get S.dat zc⟩
      ·rw [show i - (t.put j).snd=(i - (t.put j).snd - 1)+1 by omega,cM,List.getElem?_drop,show(t.put j).snd+(i - (t.put j).snd - 1)=i - 1 by omega]at kW;obtain⟨b',e1,e2⟩:=k3 (i - 1) k kW;exact keep (i - 1) b' e1 e2 (by rw [ge i,if_neg fj,if_neg heq])
  by_cases hfull:(t.put j).fst.tooFull=true
  ·rw [hfull];simp only [Bool.not_false,gS,if_true, ↓reduceIte];have ez:qd (es.size+1)=qd (bL es (t.put j).snd (κ.hash ks,au b)).size:=by rw [gV]
   rw [ez];refine aa (HP (s:={s with heap:=s.heap.update a (rJ (bL es (t.put j).snd (κ.hash ks,au b)) (t.put j).fst)}) S1 hfull (by rw [gV,Xm]; omega) fun h' o' qS t' VZ S2 hp=> ?_);refine ag (h2 h' o' qS _ t' (zc.trans VZ) S2 (fun e=>(hp.mem_iff).trans (qt _ _ _ _)) ?_);have:=hp.length_eq;rw [ao,ao,gV]at this;exact this
  ·rw [ML]at hfull;rw [hfull];simp only [lM,aZ,if_false];refine ag (h2 _ _ _ _ _ zc ⟨S1, ?_⟩ (fun e=>qt _ _ _ _) (gV _ _ _));unfold SetTable.tooFull Bj at hfull;rw [KA,Vo]at hfull;rw [gV];have: ¬(t.put j).fst.mask * 3<=(es.size+1) * 5:=by simpa using hfull
   omega
end
abbrev sg(w:aW):Bool:=w.params.followText "set-order"
section
variable {prog:aH}{w:aW}{Ky:Type} [DecidableEq Ky]{κ:nF prog w Ky}
def yK(κ:nF prog w Ky)(h:aY)(a:ai)(val:Nat->Ky)(T:Nat->ai)(i:Nat):Prop:=
 ∃o es ep t,PS κ (!sg w) h a o es ep t/\es.size<=i/\(∀e∈es.toList, ∃j,j < i/\e=(κ.hash (val j),au (T j)))/\ ∀j,j < i-> ∃j',j' < i/\(κ.hash (val j'),au (T j'))∈es.toList/\val j'=val j
theorem yK.at{h h':aY}{a:ai}{val:Nat->Ky}{T:Nat->ai}{i:Nat}(x:yK κ h a val T i)(hk: ∀o,h.get? a=some o->h'.get? a=some o)(ht:sY h h'):yK κ h' a val T i:=by
 obtain⟨o,es,ep,t,S,h1,h2,h3⟩:=x;refine⟨o,es,ep,t,⟨⟨hk o S.get,S.ex,S.dat,S.mask,S.HE,S.size,S.plain,S.led,S.iT,S.fit,S.pl,S.Wh,fun e he=> ?_,S.on, ?_⟩,S.room⟩,h1,h2,h3⟩
 ·obtain⟨ks,b,rfl,O9⟩:=S.el e he;exact⟨ks,b,rfl,κ.keep O9 ht⟩
 ·obtain⟨kk,k1,k2,k3⟩:=S.nd;refine⟨kk,k1,k2,fun i k e=> ?_⟩;obtain⟨b,e1,e2⟩:=k3 i k e;exact⟨b,e1,κ.keep e2 ht⟩
variable {A:bA}{R:Result->aj->Prop}{I:ai}{fp wr:List ai}{G:Array GenState->Array GenState->Prop}{n:Nat}{P:Nat->af->Prop}{St:Nat->aj->Prop}
theorem Eu(W:WalksS prog w A.in1 I fp wr G n P St)(hu:κ.room A.in1)(XD: ∀i s,St i s-> ∀b∈wr, ∀o,s.heap.get? b=some o-> ¬ON o)(S:ai)(SK:S∉fp)(val:Nat->Ky)(T:Nat->ai)(VP: ∀i v,P i v->v=au (T i))(hn:n<=120):
  ∀(k i:Nat) (s:aj),n - i=k->i<=n->St i s->yK κ s.heap S val T i->(∀j,j < n->κ.is s.heap (val j) (T j))->
   (∀s',Moved (S::wr) G s s'->yK κ s'.heap S val T n->R (.ok (.ret .none)) s')->
   gj (aC prog w) A (.builtin "set.update.loop" ⟨[.ref S, .ref I], []⟩) R s:=by
 have XI:S∉wr:=fun h=>SK (W.sub _ h);have Ke: ∀b∈wr,b∈S::wr:=fun b hb=>c7 _ hb;intro k
 induction k with
 | zero=>
  intro i s hk hi Pm hS Ru hR;have rZ:i=n:=by omega
  subst rZ;refine dJ PyProof.Rows.F.entry_set_update_loop ?_;rw [cQ iJ _];show av _ A.in1 (jb (.ref I) >>=_) _ _ s;refine aa (W.done s _ _ Pm fun s' hm=> ?_);show av _ A.in1 (ret bD) _ _ s';exact ag (hR s' (hm.mono Ke) (hS.at (fun o e=>hm.heap S o XI e) fun c o tu e=>hm.heap c o (fun z=>XD _ _ Pm c z o e tu) e))
 | succ k ih=>
  intro i s hk hi Pm hS Ru hR;have fj:i < n:=by omega
  refine dJ PyProof.Rows.F.entry_set_update_loop ?_;rw [cQ iJ _];show av _ A.in1 (jb (.ref I) >>=_) _ _ s;refine aa (W.item i s _ _ fj Pm fun v s' hP VU hm=> ?_);have hv:=VP i v hP;subst hv;have W5:sY s.heap s'.heap:=fun c o tu e=>hm.heap c o (fun z=>XD _ _ Pm c z o e tu) e;have Mu: ∀j,j < n->κ.is s'.heap (val j) (T j):=fun j hj=>κ.keep (Ru j hj) W5;have Kb:yK κ s'.heap S val T i:=hS.at (fun o e=>hm.heap S o XI e) W5;show av _ A.in1 (kX [au (T i)] (setAdd S (.ref (T i))) >>=_) _ _ s';refine aa (bP ?_);unfold setAdd;refine bP ?_;refine aa (κ.Hd hu (Mu i fj) ?_);obtain⟨o,es,ep,t,SX,q1,q2,q3⟩:=Kb;have next: ∀h':aY,bR S s'.heap h'->yK κ h' S val T (i+1)-> ∀tk,s'.toks<=tk->
    gj (aC prog w) A (.builtin "set.update.loop" ⟨[.ref S, .ref I], []⟩) R {s' with heap:=h',toks:=tk}:=fun h' zc ZX tk VG=>by
   refine ih (i+1) _ (by omega) fj (W.frame _ s' _ _ VU VG fun b hb o e=> ?_) ZX (fun j hj=>κ.at (Mu j hj) SX.get SX.dat zc) fun RJ Vy VA=> ?_
   ·rw [zc.2 b (fun h:b=S=>SK (by rw [<-h]; exact hb))]; exact e
   ·refine hR RJ (Moved.trans W.gtrans ((hm.mono Ke).then_heap VG fun b o hb e=> ?_) Vy) VA;rw [zc.2 b (fun h:b=S=>hb (by rw [h]; exact dO))]; exact e
  refine OT (s:={s' with toks:=s'.toks+κ.draws (val i)}) hu SX (by omega) (Mu i fj) (fun hx=> ?_) fun h' o' qS Pc t' zc Zg qM hsz=> ?_
  ·refine ag ⟨d_ iJ _,next s'.heap (eD S s'.heap) ⟨o,es,ep,t,SX,by omega,fun e he=> ?_,fun j hj=> ?_⟩ _ (MQ _ _)⟩
   ·obtain⟨j,hj,e1⟩:=q2 e he;exact⟨j,by omega,e1⟩
   ·by_cases FL:j=i
    ·subst FL;obtain⟨b',ki,kW⟩:=hx;obtain⟨j',CY,e1⟩:=q2 _ ki;have e2:b'=T j':=by injection e1 with _ e3; injection e3
     rw [e2]at kW ki;have e4:val j'=val j:=κ.inj (Mu j' (by omega)) kW;refine⟨j',by omega, ?_,e4⟩;rw [e4];exact ki
    ·obtain⟨j',CY,e1,e2⟩:=q3 j (by omega);exact⟨j',by omega,e1,e2⟩
  ·refine ag ⟨d_ iJ _,next h' zc ⟨o',qS,Pc,t',Zg,by omega,fun e he=> ?_,fun j hj=> ?_⟩ _ (MQ _ _)⟩
   ·rcases(qM e).mp he with he | he
    ·obtain⟨j,hj,e1⟩:=q2 e he;exact⟨j,by omega,e1⟩
    ·exact⟨i,by omega,he⟩
   ·by_cases FL:j=i
    ·subst FL;exact⟨j,by omega,(qM _).mpr (.inr rfl),rfl⟩
    ·obtain⟨j',CY,e1,e2⟩:=q3 j (by omega);exact⟨j',by omega,(qM _).mpr (.inl e1),e2⟩
end
section
variable {prog:aH}{w:aW}{Ky:Type} [DecidableEq Ky]{κ:nF prog w Ky}{A:bA}{E:af->aj->Prop}{s:aj}
theorem Aj(a:af){Q₁:af->aj->Prop}(h:Q₁ (.ref s.heap.objs.size) {s with heap:=s.heap.push {cls:= .type "set",dict:=none,data:= .set #[] 0 (.fresh 0 0 (!sg w))}}):
  gj (aC prog w) A (.call (.builtin "set.__new__") ⟨[.type "set",a], []⟩) (wants Q₁ E) s:=by
 refine codeAny_of_tree ?_;show av _ A.in1 (do checkBuiltinCall "set.__new__" ⟨[.type "set",a], []⟩; again (.builtin "set.__new__" ⟨[.type "set",a], []⟩)) _ _ s;refine aa (vL (PySem.F.newCall_set_1 a) (ag ⟨d_ PySem.F.plain_set_new _,dJ PySem.F.entry_set_new ?_⟩));rw [cQ PySem.F.plain_set_new _];unfold dH.«set.__new__» Builtin.Frozenset.newClass;have Ke:=PySem.sub_set_self;obtain⟨hp,g,d,tk,os⟩:=s;dsimp only
 wp_walk
 refine ni (ag ?_);dsimp only;simp only [newObj];refine aa (wpAny_alloc (ag ?_));exact ag h
set_option maxHeartbeats 3200000 in
theorem Ih{l:ai}{items:Array af}{n:Nat}{val:Nat->Ky}{T:Nat->ai}{Q:af->aj->Prop}(hh:A.handled=none)(hu: ∀B:bA,B.units<=A.units+8->κ.room B)(hl:s.heap.IsList l items)(hn:items.size=n)(h4:n<=120)
  (hi: ∀i,i < n->items[i]? =some (.ref (T i)))(Ru: ∀i,i < n->κ.is s.heap (val i) (T i))
  (h: ∀(h':aY) (tk:Nat),yK κ h' s.heap.objs.size val T n->(∀b o,b < s.heap.objs.size->s.heap.get? b=some o->h'.get? b=some o)->Q (.ref s.heap.objs.size) {s with heap:=h',toks:=tk}):
  av (aC prog w) A (call (.type "set") [.ref l]) Q E s:=by
 obtain⟨c,tl,ZA⟩:=fF.mro;have XT:=fF.made;have Ke:=fF.sub;refine wpAny_call (codeAny_of_tree ?_);show av _ _ (callAny (.type "set") _) _ _ _;refine ag ⟨Code.quiet_builtin _ (by decide +kernel),dJ PySem.F.entry_type_call ?_⟩;rw [Around.under_plain (weight_type_call_type "set" [.ref l] []) rfl];have h1:=fF.notType;have h2:=fF.canCreate;have hct:=PySem.F.typeCall_set_1 (.ref l)
 repeat (any_goals (first | assumption | wp_step))
 refine om (Aj (.ref l) (E:=E) (Q₁:=fun obj eK=>obj= .ref s.heap.objs.size/\eK={s with heap:=s.heap.push {cls:= .type "set",dict:=none,data:= .set #[] 0 (.fresh 0 0 (!sg w))}}) ⟨rfl,rfl⟩) fun r eK hr=> ?_;cases r with
 | error e=>exact hr
 | ok fl=>
  cases fl with
  | ret obj=>
   obtain⟨rfl,rfl⟩:=hr;have hS:(s.heap.push {cls:= .type "set",dict:=none,data:= .set #[] 0 (.fresh 0 0 (!sg w))}).get? s.heap.objs.size=some {cls:= .type "set",dict:=none,data:= .set #[] 0 (.fresh 0 0 (!sg w))}:=aw _ rfl;have hT1:gT {s with heap:=s.heap.push {cls:= .type "set",dict:=none,data:= .set #[] 0 (.fresh 0 0 (!sg w))}} (.ref s.heap.objs.size) "set":=⟨_,hS,rfl⟩;have hli:=fF.init.lookup;have hbi:=fF.init.bind (.ref s.heap.objs.size)
   repeat (any_goals (first | assumption | wp_step))
   refine om (codeAny_call_builtin (R:=wants (fun r cE=>r= .none/\ ∃h' tk,cE={s with heap:=h',toks:=tk}/\yK κ h' s.heap.objs.size val T n/\
     (∀b o,b < s.heap.objs.size->s.heap.get? b=some o->h'.get? b=some o)) E) fF.init.plain PySem.F.entry_set_init (check_set_init_1 hT1 ?_)) fun VY cE JT=> ?_
   ·obtain⟨ol,PV,Pn,nl,My⟩:=hl;obtain⟨Z1,Q5,Xh,O1⟩:=ol;simp only at Pn My;subst Pn; subst My;have Vv:(s.heap.push {cls:= .type "set",dict:=none,data:= .set #[] 0 (.fresh 0 0 (!sg w))}).get? l=some {cls:= .type "list",dict:=Q5,data:= .seq items nl,slots:=O1}:=ah _ PV;have ZC:=PySem.F.sub_list_set;have ZU:=PySem.F.sub_list_frozenset;have ja:(cK "list"==cK "dict")=false:=by decide
    have Bw:(s.heap.push {cls:= .type "set",dict:=none,data:= .set #[] 0 (.fresh 0 0 (!sg w))}).IsList l items:=⟨_,Vv,rfl,nl,rfl⟩;unfold dH.«set.__init__» noKeywords Builtin.Frozenset.updateFrom;generalize hPI:vA=PI
    wp_walk
    subst hPI;refine sr Bw ?_;refine aa (y7 ?_);have XG:l < s.heap.objs.size:=az PV;have VS:l≠(s.heap.push {cls:= .type "set",dict:=none,data:= .set #[] 0 (.fresh 0 0 (!sg w))}).objs.size:=by
     rw [c8]; exact aN (cZ XG)
    have SK:s.heap.objs.size∉ [(s.heap.push {cls:= .type "set",dict:=none,data:= .set #[] 0 (.fresh 0 0 (!sg w))}).objs.size,l]:=by
     rw [c8]; simp only [aV,aJ,gB,or_false,not_or];exact⟨aN (gA _),b9 XG⟩
    have ltT: ∀i,i < n->T i < s.heap.objs.size:=fun i FD=>by obtain⟨o,_,ho⟩:=κ.lt (Ru i FD); exact az ho
    refine Eu ((Walks.list (by simp [hh]) _ l VS items).toS) (hu _ (by simp only [iB]; omega)) (fun i s0 st b hb ob e tu=> ?_) s.heap.objs.size SK val T (fun i v hv=> ?_) (by omega) (items.size - 0) 0 _ (by omega) (bK _)
     ⟨⟨_,aw _ rfl,rfl,rfl⟩,(Bw.push _)⟩ ⟨_, #[],0, .fresh 0 0 (!sg w),⟨⟨ah _ hS,⟨rfl,rfl,rfl⟩,rfl, .inl rfl,rfl,rfl,rfl,rfl,bK _,bK _,eY,(fun x hx=>by cases hx),(fun e he=>by simp at he),(fun i e he=>by simp at he),⟨[],rfl,qb,fun i k e=>by simp at e⟩⟩,show 0 * 5 < 7 * 3 by decide⟩,ay _,fun e he=>by simp at he,fun j hj=>by omega⟩
     (fun j hj=>κ.keep (Ru j (by omega)) fun c o _ e=>ah _ (ah _ e)) ?hR
    ·obtain⟨o1,e1,c1,d1⟩:=st.1;have:b=_:=aJ.mp hb;subst this;rw [e1]at e;cases e;have t1:=tu.1;rw [c1]at t1;exact absurd t1 (by decide)
    ·have fj:i < n:=by rw [<-hn]; exact(bT.mp hv).1
     have:=hi i fj;rw [hv]at this;exact aF this
    case hR=>
     intro s' hm Kb;obtain⟨h',g',d',RD,MD⟩:=s';have eg:g'=s.gens:=hm.gens;have ed:d'=s.drawn:=hm.drawn;have eo:MD=s.os:=hm.os;subst eg; subst ed; subst eo;show av _ _ _ _ _ _;refine ag ?_;show av _ _ (ret bD) _ _ _;refine ag ⟨rfl,h',RD,rfl,by rw [<-hn]; exact Kb,fun b o hb e=> ?_⟩;have Nn:b≠s.heap.objs.size:=aN hb;have PZ:b≠(s.heap.push {cls:= .type "set",dict:=none,data:= .set #[] 0 (.fresh 0 0 (!sg w))}).objs.size:=by
      rw [c8]; exact aN (cZ hb)
     exact hm.heap b o (by simp only [aV,aJ,gB,or_false,not_or]; exact⟨Nn,PZ⟩) (ah _ (ah _ e))
   ·cases VY with
    | error e=>exact JT
    | ok fl₂=>
     cases fl₂ with
     | ret r=>
      obtain⟨rfl,h',tk,rfl,Kb,kW⟩:=JT
      repeat (any_goals (first | assumption | wp_step))
      exact h _ _ Kb kW
     | _=>exact JT.elim
  | _=>exact hr.elim
end
namespace F
theorem uj:entryFor table "set.__iter__"=some dH.«frozenset.__iter__» :=entryFor_alias (id':="frozenset.__iter__") (by kernel_rfl) rfl (by decide +kernel) (by kernel_rfl)
theorem args_set_iter_1(a:af):argsOk "set.__iter__" ⟨[a], []⟩:=by unfold argsOk; kernel_rfl
theorem i4:Slot "set_iterator" "__next__" "set_iterator.__next__":=
 .of (owner:="set_iterator") (n:="__next__") (by rw [NP,Er]; kernel_rfl) (by decide +kernel) (by decide +kernel) (by decide +kernel)
  (by first | exact .inl (by decide +kernel) | exact .inr (by decide +kernel)) (by rw [qe]; kernel_rfl)
theorem se:entryFor table "set_iterator.__next__"=some dH.«set_iterator.__next__» :=entryFor_of_tree (by kernel_rfl)
theorem qX(a:af):argsOk "set_iterator.__next__" ⟨[a], []⟩:=by unfold argsOk; kernel_rfl
theorem nV:Slot "set_iterator" "__iter__" "set_iterator.__iter__":=
 .of (owner:="set_iterator") (n:="__iter__") (by rw [NP,Er]; kernel_rfl) (by decide +kernel) (by decide +kernel) (by decide +kernel)
  (by first | exact .inl (by decide +kernel) | exact .inr (by decide +kernel)) (by rw [qe]; kernel_rfl)
theorem r_:entryFor table "set_iterator.__iter__"=some dH.«dict_keyiterator.__iter__» :=entryFor_alias (id':="dict_keyiterator.__iter__") (by kernel_rfl) rfl (by decide +kernel) (by kernel_rfl)
theorem rj(a:af):argsOk "set_iterator.__iter__" ⟨[a], []⟩:=by unfold argsOk; kernel_rfl
theorem Lm:typeLookup (.type "set") "__len__"=pure (some (.builtin "set.__len__")):=by rw [NP,Er]; kernel_rfl
end F
theorem DZ{α:Type}(next:Nat->Nat): ∀(fuel k:Nat) (left:List α) (out:Array α),left.length=fuel->(pickOrder.go next fuel k left out).toList.Perm (out.toList ++ left)
 | 0,k,left,out,h=>by
  have:left= []:=BH.mp h;subst this;show out.toList.Perm _;rw [bz]
 | fuel+1,k,left,out,h=>by
  have FI:0 < left.length:=by omega
  have fj:next k % left.length < left.length:=y6 _ FI;have e:left[next k % left.length]? =some left[next k % left.length]:=ak fj;show(match left[next k % left.length]? with | some x=>pickOrder.go next fuel (k+1) (left.eraseIdx (next k % left.length)) (out.push x) | none=>out).toList.Perm _;rw [e];dsimp only;refine(DZ next fuel (k+1) _ _ (by rw [List.length_eraseIdx_of_lt fj]; omega)).trans ?_;rw [jF,aO];refine eL _ ?_;generalize next k % left.length=j at fj;have: ∀(l:List α) (j:Nat) (h:j < l.length),([l[j]] ++ l.eraseIdx j).Perm l:=by
   intro l
   induction l with
   | nil=>intro j h; simp at h
   | cons a l ih=>
    intro j h;cases j with
    | zero=>exact dC _
    | succ j=>
     have h':j < l.length:=by simpa using h
     refine kQ (List.Perm.swap _ _ _) ?_;exact List.Perm.cons a (ih j h')
  exact this left j fj
theorem E1{α:Type}(next:Nat->Nat)(xs:Array α):(pickOrder next xs).toList.Perm xs.toList:=by
 unfold pickOrder;refine(DZ next xs.size 0 xs.toList #[] (by simp)).trans ?_;simp
section
variable {prog:aH}{w:aW}
def lY(w:aW)(a:ai)(ep:Nat)(es:Array (Int×af)):Array (Int×af):=if sg w then pickOrder (w.params.setOrder a ep) es else es
theorem AO(w:aW)(a:ai)(ep:Nat)(es:Array (Int×af)):(lY w a ep es).toList.Perm es.toList:=by
 unfold lY
 split
 ·exact E1 _ _
 ·exact dC _
theorem tL(w:aW)(a:ai)(ep:Nat)(es:Array (Int×af)):(lY w a ep es).size=es.size:=by
 have:=(AO w a ep es).length_eq;simpa using this
def jd(w:aW)(t:bC)(i:Nat):Nat:=if sg w then 0 else if i=0 then 0 else t.place.getD (i - 1) 0+1
def mT(w:aW)(a:ai)(ep n:Nat)(t:bC)(i:Nat):Obj:={cls:= .type "set_iterator",data:= .fields #[.int (jd w t i) 0, .int i 0, .ref a, .int n 0, .int ep 0]}
variable {a:ai}{o:Obj}{es:Array (Int×af)}{ep:Nat}{t:bC}{A:bA}{E:af->aj->Prop}{s:aj}
structure PF(led:Bool)(o:Obj)(es:Array (Int×af))(ep:Nat)(t:bC):Prop where
 ex:o.ExactSet
 dat:o.data= .set es ep t
 HE:t.dummies= #[]
 size:t.place.size=es.size
 plain:t.plain=true
 led:t.led=led
 iT:es.size<=120
 fit:es.size<=t.mask
 pl:o9 t.place
theorem PS.pf{Ky:Type} [DecidableEq Ky]{κ:nF prog w Ky}{led:Bool}{h:aY}(S:PS κ led h a o es ep t):PF led o es ep t:=⟨S.ex,S.dat,S.HE,S.size,S.plain,S.led,S.iT,S.fit,S.pl⟩
theorem PF.fits{led:Bool}(S:PF led o es ep t):t.fits es.size=true:=by
 unfold SetTable.fits Bj;rw [S.size,S.HE];have:=S.fit;simp;omega
theorem PF.state{led:Bool}{Q:(Array (Int×af)×Nat×bC)->aj->Prop}(S:PF led o es ep t)(hg:s.heap.get? a=some o)(h:Q (es,ep,t) s):av (aC prog w) A (setState a) Q E s:=
 wpAny_setState_of hg S.dat S.fits h
theorem LB{Q:Option (af×Nat)->aj->Prop}{i:Nat}(S:PF (!sg w) o es ep t)(hg:s.heap.get? a=some o)(hi:i<=es.size)
  (h:Q (((lY w a ep es)[i]?).map fun e=>(e.2,jd w t (i+1))) s):av (aC prog w) A (setNext a (jd w t i) i ep) Q E s:=by
 unfold setNext;refine aa (S.state hg ?_);unfold setsByText;refine aa (aa (ni (ag ?_)));have W0:({program:=(aC prog w).prog,params:=(aC prog w).w.params}:Setting).params.followText "set-order"=sg w:=rfl;rw [W0]
 by_cases hb:sg w=true
 ·rw [if_pos hb];dsimp only;rw [if_neg (by simp)];unfold setWalk setsByText;refine aa (aa (S.state hg ?_));refine aa (aa (ni (ag ?_)));rw [W0,if_pos hb];refine aa (ni (ag (ag ?_)));have e1:jd w t (i+1)=0:=by unfold jd; rw [if_pos hb]
  have e2:jd w t i=0:=by unfold jd; rw [if_pos hb]
  rw [e1]at h;rw [e2];unfold lY at h;rw [if_pos hb]at h;exact h
 ·rw [if_neg hb];dsimp only
  split
  ·rename_i hd;have BB:(!t.plain&&decide (es.size > 1))=true:=hd;rw [S.plain]at BB;cases BB
  ·refine aa ?_;show av (aC prog w) A (if(!t.led&& !es.isEmpty)=true then ie "set:maker-not-led" else pure ()) _ _ _;have Y0:sg w=false:=by simpa using hb
   have UY:t.led=true:=by rw [S.led,Y0]; rfl
   rw [UY,if_neg (by simp)];refine ag (ag ?_);have e0:jd w t i=if i=0 then 0 else t.place.getD (i - 1) 0+1:=by unfold jd; rw [if_neg hb]
   have Vm:bH t.place (jd w t i)=i:=by rw [e0]; exact QC S.pl (by rw [S.size]; exact hi)
   rw [Vm];unfold lY at h;rw [if_neg hb]at h
   by_cases fj:i < es.size
   ·have h1:es[i]? =some es[i]:=bE fj;have Se:i < t.place.size:=by rw [S.size]; exact fj
    have h2:t.place[i]? =some t.place[i]:=bE Se;rw [h1]at h ⊢;rw [h2];have e1:jd w t (i+1)=t.place[i]+1:=by
     unfold jd;rw [if_neg hb,if_neg (by omega),Nat.add_sub_cancel];congr 1;simp [ot,Se]
    rw [e1]at h;exact h
   ·have h1:es[i]? =none:=by simp; omega
    rw [h1]at h ⊢;exact h
theorem IP{Q:Option af->aj->Prop}{I:ai}{i:Nat}(hh:A.handled=none)(S:PF (!sg w) o es ep t)(hg:s.heap.get? a=some o)(hI:s.heap.get? I=some (mT w a ep es.size t i))(hi:i<=es.size)
  (h1: ∀e h',(lY w a ep es)[i]? =some e->h'.get? I=some (mT w a ep es.size t (i+1))->bR I s.heap h'->Q (some e.2) {s with heap:=h'})
  (h2:(lY w a ep es)[i]? =none-> ∀h',FV I s.heap h'->Q none {s with heap:=h'}):av (aC prog w) A (jb (.ref I)) Q E s:=by
 have hT:s.TypeIs (.ref I) "set_iterator":=⟨_,hI,rfl⟩;unfold jb;refine aa (mQ (c6 (name:=iA "__next__") hT F.i4 (bU F.i4 hT F.se ?_ (F.qX _))));unfold dH.«set_iterator.__next__» slotArgs;simp only [List.isEmpty_nil,dZ,aZ, ↓reduceIte,bind_assoc,dI,bne_self_eq_false];refine aa (ag ?_);refine aa (wpAny_fieldsOf hI rfl ?_);show av (aC prog w) _ (do
  let Ba<-setEntries a
  if((Ba.size:Int) !=(es.size:Int))=true then _ else _) _ _ s
 refine aa (wpAny_setEntries_of hg S.dat S.fits ?_);rw [if_neg (by simp)];show av (aC prog w) _ (do
  let A2<-setNext a (jd w t i:Int).toNat (i:Int).toNat (ep:Int).toNat
  match A2 with
   | some (x,next)=>do
    ig (.ref I) 0 (fm (next:Int))
    ig (.ref I) 1 (fm ((i:Int)+1))
    ret x
   | none=>do
    ig (.ref I) 2 bD
    let dG<-vC (cK "StopIteration") []
    raiseNew dG) _ _ s
 rw [cP,cP,cP];refine aa (LB S hg hi ?_);cases e:(lY w a ep es)[i]? with
 | some x=>
  dsimp only [Option.map_some];refine aa (eU hI rfl (by show 0 < 5; decide) ?_);have Ee:(s.heap.update I (gU (·.setIfInBounds 0 (fm (jd w t (i+1):Int))))).get? I=some {cls:= .type "set_iterator",data:= .fields #[.int (jd w t (i+1)) 0, .int i 0, .ref a, .int es.size 0, .int ep 0]}:=dw _ hI rfl;refine aa (eU Ee rfl (by show 1 < 5; decide) ?_);refine ag ⟨_,rfl,ag (h1 x _ e ?_ ((bG ..).trans (bG ..)))⟩;exact dw _ Ee rfl
 | none=>
  dsimp only [Option.map_none];refine aa (eU hI rfl (by show 2 < 5; decide) ?_);show av _ _ (vC (.type "StopIteration") [] >>=_) _ _ _;refine aa ?_;simp only [vC,newTuple];refine aa (bx ?_ (by size_fits));refine aa (m:=ij _ _) (vL (a:=bD) (by first | rfl | (simp only [ij]; rfl)) ?_);refine bx ?_ (by size_fits);simp only [raiseNew];refine aa (Bl ?_);rw [show A.in1.handled=none from hh];refine aa (ag (FW ?_));refine aa (fy (T:="StopIteration") (b:=true) ⟨_,aw _ rfl,rfl⟩ y8 ?_);exact ag (h2 e _ (((bG ..).extBut.push _).push _))
theorem EK(hh:A.handled=none)(S:PF (!sg w) o es ep t){I:ai}(SJ:I≠a):Walks prog w A I [I,a] [I] es.size (fun i v=> ∃e,(lY w a ep es)[i]? =some e/\v=e.2) (fun i h=>h.get? I=some (mT w a ep es.size t i)/\h.get? a=some o/\i<=es.size) where
 sub:=fun b hb=>by rw [aJ.mp hb]; exact dO
 frame:=fun i h h' ⟨x,y,z⟩ hk=>⟨hk I (by simp) _ x,hk a (by simp) _ y,z⟩
 item:=fun i s Q E hi ⟨x,y,z⟩ hQ=>IP hh S y x z (fun e h' he PJ sb=>hQ _ h' s.toks ⟨e,he,rfl⟩ ⟨PJ,(sb.2 a SJ.symm).trans y,hi⟩ fun b ob hb q=>(sb.2 b (by simpa using hb)).trans q) fun he=>by
  have:=tL w a ep es;rw [bE (by omega)]at he;cases he
 done:=fun s Q E ⟨x,y,z⟩ hQ=>IP hh S y x z (fun e h' he _ _=>by
  have:=tL w a ep es;have:=(bT.mp he).1;omega) fun _ h' eb=>hQ h' s.toks fun b ob hb q=>eb b ob (by simpa using hb) q
 self:=fun i s Q E ⟨x,y,z⟩ hQ=>by
  have hT:s.TypeIs (.ref I) "set_iterator":=⟨_,x,rfl⟩;refine jG hT F.nV (bU F.nV hT F.r_ ?_ (F.rj _));show av _ _ (ret (.ref I)) _ _ s;exact ag ⟨_,rfl,"set_iterator",_,hT,F.i4.lookup,hQ⟩
theorem I9{Q:af->aj->Prop}(S:PF (!sg w) o es ep t)(hg:s.heap.get? a=some o)(h:Q (.ref s.heap.objs.size) {s with heap:=s.heap.push (mT w a ep es.size t 0)}):av (aC prog w) A (vA (.ref a)) Q E s:=by
 have hT:s.TypeIs (.ref a) "set":=⟨_,hg,S.ex.1⟩;refine jG hT PySem.F.slot_set_iter (bU PySem.F.slot_set_iter hT F.uj ?_ (F.args_set_iter_1 _));unfold dH.«frozenset.__iter__» Builtin.Frozenset.slot0 slotArgs;simp only [List.isEmpty_nil,dZ,aZ, ↓reduceIte,bind_assoc,dI,bne_self_eq_false];unfold Builtin.Frozenset.addrOf Builtin.Frozenset.sizeOf;refine aa (ag ?_)
 try dsimp only
 refine aa (ag ?_);refine aa (aa (wpAny_setEntries_of hg S.dat S.fits (ag ?_)));unfold setDrawn setsByText;refine aa (aa (S.state hg ?_));refine aa (aa (ni (ag (ag ?_))))
 split
 ·rename_i hd;have BB:((!sg w)&&(!t.plain&&decide (es.size > 1)))=true:=hd;rw [S.plain]at BB;simp at BB
 refine aa (ag ?_);unfold setEpoch;refine aa (aa (S.state hg (ag ?_)));have YX:jd w t 0=0:=by unfold jd; split <;> rfl
 refine aa (bx (ag ⟨_,rfl,"set_iterator",_,⟨_,aw _ rfl,rfl⟩,F.i4.lookup, ?_⟩));have e:(mT w a ep es.size t 0)={cls:= .type "set_iterator",data:= .fields #[.int ((0:Nat):Int) 0, .int ((0:Nat):Int) 0, .ref a, .int es.size 0, .int ep 0]}:=by unfold mT; rw [YX]
 rw [e]at h;exact h
theorem Ay{Q:List af->aj->Prop}(hh:A.handled=none)(S:PF (!sg w) o es ep t)(hg:s.heap.get? a=some o)
  (hQ: ∀h' tk (vs:List af),s.heap.objs.size < h'.objs.size->(∀b ob,s.heap.get? b=some ob->h'.get? b=some ob)->vs.Perm (es.toList.map (·.2))->Q vs {s with heap:=h',toks:=tk}):av (aC prog w) A (collect (.ref a)) Q E s:=by
 have fj:a < s.heap.objs.size:=az hg;unfold collect;refine aa (y7 (dJ xt ?_));rw [cQ xu _];show av _ A.in1 (xr [] >>=fun l=>again (.builtin "list.__iadd__" ⟨[l, .ref a], []⟩)) _ _ s;refine aa (bx ?_);refine ag ⟨d_ gC _,dJ BK ?_⟩;rw [cQ gC _];have rC:(s.heap.push {cls:= .type "list",data:= .seq ([]:List af).toArray}).get? a=some o:=ah _ hg;have AZ:(s.heap.push {cls:= .type "list",data:= .seq ([]:List af).toArray}).get? s.heap.objs.size=some {cls:= .type "list",data:= .seq ([]:List af).toArray}:=aw _ rfl;have h1:gi (.ref s.heap.objs.size) (.ref a)=false:=by simp [gi,b9 fj]
 have hT:gT {s with heap:=s.heap.push {cls:= .type "list",data:= .seq ([]:List af).toArray}} (.ref a) "set":=⟨_,rC,S.ex.1⟩;show av _ A.in1 (ft (.ref s.heap.objs.size) (.ref a) (.ref s.heap.objs.size)) _ _ _;unfold ft;refine aa (fq hT ?_);rw [if_neg (by rw [h1]; decide)];refine aa (I9 (s:={s with heap:=s.heap.push {cls:= .type "list",data:= .seq ([]:List af).toArray}}) S rC ?_);refine aa (bP ?_);unfold xv;have VI:gT {s with heap:=(s.heap.push {cls:= .type "list",data:= .seq ([]:List af).toArray}).push (mT w a ep es.size t 0)} (.ref a) "set":=⟨_,ah _ rC,S.ex.1⟩;refine aa (fQ VI F.Lm ?_);generalize hid:("set.__len__":String)=id0;dsimp only;rw [show splitId id0=some ("set","__len__")from by subst hid; decide +kernel];subst hid;dsimp only;refine aa (fy (b:=true) VI (by rw [qe]; kernel_rfl) ?_);rw [if_neg (show ¬(!true)=true by decide)];refine eI (fun _=> ?_) fun hs=>(hs (by decide +kernel)).elim;refine aa (fq VI (ag ?_));have Em:(s.heap.push {cls:= .type "list",data:= .seq ([]:List af).toArray}).objs.size=s.heap.objs.size+1:=c8 ..;have ja:s.heap.objs.size≠(s.heap.push {cls:= .type "list",data:= .seq ([]:List af).toArray}).objs.size:=by rw [Em]; exact aN (gA _)
 have SJ:(s.heap.push {cls:= .type "list",data:= .seq ([]:List af).toArray}).objs.size≠a:=by rw [Em]; exact b9 (cZ fj)
 have Bz:((s.heap.push {cls:= .type "list",data:= .seq ([]:List af).toArray}).push (mT w a ep es.size t 0)).get? s.heap.objs.size=some {cls:= .type "list",data:= .seq ([]:List af).toArray}:=ah _ AZ;have Ee:((s.heap.push {cls:= .type "list",data:= .seq ([]:List af).toArray}).push (mT w a ep es.size t 0)).get? (s.heap.push {cls:= .type "list",data:= .seq ([]:List af).toArray}).objs.size=some (mT w a ep es.size t 0):=aw _ rfl;have pZ: ∀b ob,s.heap.get? b=some ob->((s.heap.push {cls:= .type "list",data:= .seq ([]:List af).toArray}).push (mT w a ep es.size t 0)).get? b=some ob:=fun b ob e=>ah _ (ah _ e);generalize hI0:(s.heap.push {cls:= .type "list",data:= .seq ([]:List af).toArray}).objs.size=I0 at ja SJ Ee Em ⊢;generalize hH0:(s.heap.push {cls:= .type "list",data:= .seq ([]:List af).toArray}).push (mT w a ep es.size t 0)=H0 at Bz Ee pZ ⊢;have Zx:=pZ a o hg;have fin: ∀(h':aY) (c:Nat),bR s.heap.objs.size H0 h'->h'.get? s.heap.objs.size=some {cls:= .type "list",dict:=none,data:= .seq #[] c,slots:= #[]}->
   gj (aC prog w) A (.builtin "list.extend.loop" ⟨[.ref s.heap.objs.size, .ref I0, .ref s.heap.objs.size], []⟩) (fun r s'=>match r with
       | qk (Flow.ret v)=>
        av (aC prog w) A
         (match v with
         | au a=>do
          let dG<-load a
          match dG.data with
           | yY xs epoch=>pure xs.toList
           | x=>ie "internal:collect"
         | x=>ie "internal:collect")
         Q E s'
       | qk a=>False
       | Except.error e=>E e s') {s with heap:=h'}:=fun h' c sb hl=>by
  refine codeAny_extend_loopS ((EK (A:=A.in1) (by simpa using hh) S SJ).toS) (by have:=S.iT; rw [eF]; omega) s.heap.objs.size (by simp only [aV,gB,or_false,not_or]; exact⟨ja,b9 fj⟩) _ es.size 0 _ #[] c (by omega) (bK _)
   ⟨(sb.2 I0 ja.symm).trans Ee,(sb.2 a (aN fj)).trans Zx,bK _⟩ hl (ItemsOf.nil _) fun s' acc c' hm Kb wq=> ?_
  dsimp only;refine aa (wpAny_load Kb ?_);refine ag ?_;obtain⟨h2,g',d',RD,MD⟩:=s';have eg:g'=s.gens:=hm.gens;have ed:d'=s.drawn:=hm.drawn;have eo:MD=s.os:=hm.os;subst eg; subst ed; subst eo;refine hQ h2 RD acc.toList (az Kb) (fun b ob e=> ?_) ?_
  ·have hb:=az e;refine hm.heap b ob ?_ ((sb.2 b (aN hb)).trans (pZ b ob e));simp only [aV,gB,or_false,not_or];exact⟨aN hb,by rw [Em]; exact aN (cZ hb)⟩
  ·have e:acc.toList=(lY w a ep es).toList.map (·.2):=by
    apply e7;intro i;rw [aA]
    by_cases hi:i < es.size
    ·have KH:i < acc.size:=by rw [wq.1]; exact hi
     have h1:acc[i]? =some acc[i]:=bE KH;obtain⟨e,he,hv⟩:=wq.2 i _ h1;have h3:acc.toList[i]? =some acc[i]:=by rw [bf]; exact h1
     have h4:(lY w a ep es).toList[i]? =some e:=by simpa using he
     rw [h3,h4,hv];rfl
    ·have h1:acc.toList[i]? =none:=bp (by rw [ao,wq.1]; omega);have h2:(lY w a ep es).toList[i]? =none:=bp (by rw [ao,tL]; omega);rw [h1,h2];rfl
   rw [e];exact(AO w a ep es).map _
 refine eI (fun _=> ?_) fun _=> ?_
 ·refine aa (fE ?_);unfold C7;refine aa (aa (iS Bz rfl ?_ (by show 0<=_; omega) (by show 1<=_; rw [eF]; omega)));have NB:=fR Bz fun x=>x.push bD;refine iS NB rfl ?_ (by show 1<=_; rw [eF]; omega) (by show 0<=_; omega);have Rm:=fR NB fun x=>x.pop;exact ag ⟨d_ cT _,fin _ _ ((bG ..).trans (bG ..)) Rm⟩
 ·exact ag ⟨d_ cT _,fin _ _ (eD _ _) Bz⟩
end
end Z
namespace Z
open PySem PySem.Spec PySem.W PyProof.Rows
abbrev Kd:=PyProof.Rows.Keyed
structure nC(S:Kd->Prop)(lt:Kd->Kd->Bool):Prop where
 tot: ∀x y,S x->S y->x≠y->lt x y=false->lt y x=true
 IX: ∀x y,lt x y=true->lt y x=false
 tr: ∀x y z,lt x y=true->lt y z=true->lt x z=true
def uw(prog:aH)(w:aW)(A:bA)(s:aj)(κ:kz)(S:Kd->Prop)(lt:Kd->Kd->Bool):Prop:=
 ∀(x y:Kd) (Q:Bool->aj->Prop),S x->S y->Q (lt x y) s->av (aC prog w) A (keyLt' κ x.1 y.1) Q (fun _ _=>False) s
def LA:Bool->Kd->Array Kd->Nat->Nat->Nat->StateT cp Sem (Option Nat):=sortPriv% PySem.Builtin.gallop
section
variable {prog:aH}{w:aW}{A:bA}{E:af->aj->Prop}{s:aj}{κ:kz}{S:Kd->Prop}{lt:Kd->Kd->Bool}{st:cp}
theorem uT{x y:Kd}{Q:Option Bool->cp->Prop}(c:uw prog w A s κ S lt)(hk:kindOf st=κ)(hx:S x)(hy:S y)(h:Q (some (lt x y)) st):wpS (aC prog w) A E s (lt' x y) Q st:=by
 rw [lt'_eq];refine aI (ou ?_);rw [hk];refine aI (sG (mQ (b_ (c x y (fun b s'=>b=lt x y/\s'=s) hx hy ⟨rfl,rfl⟩) ?_ fun _ _ z=>z.elim)));rintro b s' ⟨rfl,rfl⟩;exact⟨rfl,aM h⟩
theorem c0{arr:Array Kd}{i:Nat}{x:Kd}{Q:Kd->cp->Prop}(hi:arr[i]? =some x)(h:Q x st):wpS (aC prog w) A E s (elem' arr i) Q st:=by
 rw [elem'_eq,hi];exact aM h
theorem Le{left:Bool}{key:Kd}{arr:Array Kd}{i:Nat}{x:Kd}{Q:Option Bool->cp->Prop}(o:nC S lt)(c:uw prog w A s κ S lt)(hk:kindOf st=κ)(hi:arr[i]? =some x)(hx:S x)(hy:S key)(ja:x≠key)(h:Q (some (lt x key)) st):
  wpS (aC prog w) A E s (do let x<-elem' arr i; if left=true then lt' x key else do let r<-lt' key x; pure (r.map (!·))) Q st:=by
 refine aI (c0 hi ?_);cases left with
 | true=>exact uT c hk hx hy h
 | false=>
  refine aI (uT c hk hy hx (aM ?_));have:(!lt key x)=lt x key:=by
   cases e:lt x key with
   | true=>rw [o.IX _ _ e]; rfl
   | false=>rw [o.tot _ _ hx hy ja e]; rfl
  show Q (some (!lt key x)) st;rw [this];exact h
theorem ub{n lo hi:Nat}{p:Nat->Bool}{ω:Type}{f:Nat->Option ω×Nat×Nat->StateT cp Sem (ForInStep (Option ω×Nat×Nat))}{Q:Option ω×Nat×Nat->cp->Prop}
  (hf: ∀x lo hi (Q':ForInStep (Option ω×Nat×Nat)->cp->Prop),hi<=n->(hi<=lo->Q' (.done (none,lo,hi)) st)->(lo < hi->p (lo+(hi - lo) / 2)=true->Q' (.yield (none,lo+(hi - lo) / 2+1,hi)) st)->(lo < hi->p (lo+(hi - lo) / 2)=false->Q' (.yield (none,lo,lo+(hi - lo) / 2)) st)->wpS (aC prog w) A E s (f x (none,lo,hi)) Q' st)
  (hp: ∀i j,i<=j->j < n->p j=true->p i=true)(h1:lo<=hi)(h2:hi<=n)(h3: ∀i,i < lo->p i=true)(h4: ∀i,hi<=i->i < n->p i=false)
  (h: ∀k,k<=n->(∀i,i < k->p i=true)->(∀i,k<=i->i < n->p i=false)->Q (none,k,k) st):wpS (aC prog w) A E s (forIn [0:n] (none,lo,hi) f) Q st:=by
 have dn: ∀i j,i<=j->j < n->p i=false->p j=false:=fun i j kS hj e=>by
  cases e2:p j with
  | false=>rfl
  | true=>rw [hp i j kS hj e2]at e; cases e
 refine dM (I:=fun x c cq=>cq=st/\ ∃lo hi,c=(none,lo,hi)/\lo<=hi/\hi<=n/\hi - lo<=n - x/\(∀i,i < lo->p i=true)/\(∀i,hi<=i->i < n->p i=false)) ?_ ?_ ⟨rfl,lo,hi,rfl,h1,h2,by omega,h3,h4⟩
 ·rintro x c cq _ hx ⟨rfl,lo,hi,rfl,h1,h2,h5,h3,h4⟩;refine hf x lo hi _ h2 (fun e=> ?_) (fun e q=>⟨rfl,_,_,rfl,by omega,h2,by omega,fun i FD=>hp i _ (by omega) (by omega) q,h4⟩) fun e q=>⟨rfl,_,_,rfl,by omega,by omega,by omega,h3,fun i FD hn=>dn _ i FD hn q⟩;have:lo=hi:=by omega
  subst this;exact h lo h2 h3 h4
 ·rintro c cq ⟨rfl,lo,hi,rfl,h1,h2,h5,h3,h4⟩;have:lo=hi:=by omega
  subst this;exact h lo h2 h3 h4
set_option maxHeartbeats 1000000 in
theorem jq{left:Bool}{key:Kd}{arr:Array Kd}{base n hint:Nat}{g:Nat->Kd}{Q:Option Nat->cp->Prop}(o:nC S lt)(c:uw prog w A s κ S lt)(hk:kindOf st=κ)
  (hg: ∀i,i < n->arr[base+i]? =some (g i))(hS: ∀i,i < n->S (g i))(ja: ∀i,i < n->g i≠key)(hy:S key)(hm: ∀i j,i < j->j < n->lt (g i) (g j)=true)(hh:hint < n)
  (h: ∀k,k<=n->(∀i,i < k->lt (g i) key=true)->(∀i,k<=i->i < n->lt (g i) key=false)->Q (some k) st):wpS (aC prog w) A E s (LA left key arr base n hint) Q st:=by
 have Q7: ∀i,i < n-> ∀Q':Option Bool->cp->Prop,Q' (some (lt (g i) key)) st->wpS (aC prog w) A E s (do let x<-elem' arr (base+i); if left=true then lt' x key else do let r<-lt' key x; pure (r.map (!·))) Q' st:=fun i hi Q' hq=>Le o c hk (hg i hi) (hS i hi) hy (ja i hi) hq;have up: ∀i j,i<=j->j < n->lt (g j) key=true->lt (g i) key=true:=fun i j kS hj e=>by
  rcases Nat.lt_or_eq_of_le kS with z | rfl
  ·exact o.tr _ _ _ (hm i j z hj) e
  ·exact e
 have dn: ∀i j,i<=j->j < n->lt (g i) key=false->lt (g j) key=false:=fun i j kS hj e=>by
  cases e2:lt (g j) key with
  | false=>rfl
  | true=>rw [up i j kS hj e2]at e; cases e
 refine aI (Q7 hint hh _ ?_);cases eh:lt (g hint) key with
 | true=>
  dsimp only;rw [if_pos rfl];refine aI (fh (dM (I:=fun x c cq=>cq=st/\ ∃la lK,c=(none,la,lK)/\la < lK/\x+1<=lK/\hint+la < n/\lt (g (hint+la)) key=true)
   (Q:=fun c cq=>cq=st/\ ∃la lK,c=(none,la,lK)/\la < lK/\hint+la < n/\lt (g (hint+la)) key=true/\(n - hint<=lK\/(hint+lK < n/\lt (g (hint+lK)) key=false))) ?_ ?_ ⟨rfl,0,1,rfl,by omega,by omega,by omega,eh⟩) ?_)
  ·rintro x c cq _ hx ⟨rfl,la,lK,rfl,l1,l2,l3,l4⟩;dsimp only
   by_cases z:lK>=n - hint
   ·rw [if_pos z];exact aM ⟨rfl,la,lK,rfl,l1,l3,l4, .inl z⟩
   ·rw [if_neg z];refine aI (Q7 (hint+lK) (by omega) _ ?_);cases em:lt (g (hint+lK)) key with
    | true=>exact aM ⟨rfl,lK,2 * lK+1,rfl,by omega,by omega,by omega,em⟩
    | false=>exact aM ⟨rfl,la,lK,rfl,l1,l3,l4, .inr ⟨by omega,em⟩⟩
  ·rintro c cq ⟨rfl,la,lK,rfl,l1,l2,l3,l4⟩;exact⟨rfl,la,lK,rfl,l1,l3,l4, .inl (by omega)⟩
  ·rintro c cq ⟨rfl,la,lK,rfl,l1,l3,l4,l5⟩;dsimp only;refine aI (ub (p:=fun i=>lt (g i) key) (fun x lo hi Q' hn k1 k2 k3=> ?_) up (by omega) (by omega) (fun i hi=>up i _ (by omega) l3 l4) (fun i hi hn=> ?_) fun k hk h1 h2=>aM (h k hk h1 h2))
   ·dsimp only
    by_cases z:lo>=hi
    ·rw [if_pos z];exact aM (k1 z)
    ·rw [if_neg z];refine aI (Q7 (lo+(hi - lo) / 2) (by omega) _ ?_);cases em:lt (g (lo+(hi - lo) / 2)) key with
     | true=>exact aM (k2 (by omega) em)
     | false=>exact aM (k3 (by omega) em)
   ·rcases l5 with l5 | ⟨l5,l6⟩
    ·omega
    ·exact dn (hint+lK) i (by omega) hn l6
 | false=>
  dsimp only;rw [if_neg (by simp)];refine aI (fh (dM (I:=fun x c cq=>cq=st/\ ∃la lK,c=(none,la,lK)/\la < lK/\x+1<=lK/\la<=hint/\lt (g (hint - la)) key=false)
   (Q:=fun c cq=>cq=st/\ ∃la lK,c=(none,la,lK)/\la < lK/\la<=hint/\lt (g (hint - la)) key=false/\(hint+1<=lK\/(lK<=hint/\lt (g (hint - lK)) key=true))) ?_ ?_ ⟨rfl,0,1,rfl,by omega,by omega,by omega,eh⟩) ?_)
  ·rintro x c cq _ hx ⟨rfl,la,lK,rfl,l1,l2,l3,l4⟩;dsimp only
   by_cases z:lK>=hint+1
   ·rw [if_pos z];exact aM ⟨rfl,la,lK,rfl,l1,l3,l4, .inl z⟩
   ·rw [if_neg z];refine aI (Q7 (hint - lK) (by omega) _ ?_);cases em:lt (g (hint - lK)) key with
    | true=>exact aM ⟨rfl,la,lK,rfl,l1,l3,l4, .inr ⟨by omega,em⟩⟩
    | false=>exact aM ⟨rfl,lK,2 * lK+1,rfl,by omega,by omega,by omega,em⟩
  ·rintro c cq ⟨rfl,la,lK,rfl,l1,l2,l3,l4⟩;exact⟨rfl,la,lK,rfl,l1,l3,l4, .inl (by omega)⟩
  ·rintro c cq ⟨rfl,la,lK,rfl,l1,l3,l4,l5⟩;dsimp only;refine aI (ub (p:=fun i=>lt (g i) key) (fun x lo hi Q' hn k1 k2 k3=> ?_) up (by omega) (by omega) (fun i hi=> ?_) (fun i hi hn=>dn (hint - la) i hi hn l4) fun k hk h1 h2=>aM (h k hk h1 h2))
   ·dsimp only
    by_cases z:lo>=hi
    ·rw [if_pos z];exact aM (k1 z)
    ·rw [if_neg z];refine aI (Q7 (lo+(hi - lo) / 2) (by omega) _ ?_);cases em:lt (g (lo+(hi - lo) / 2)) key with
     | true=>exact aM (k2 (by omega) em)
     | false=>exact aM (k3 (by omega) em)
   ·rcases l5 with l5 | ⟨l5,l6⟩
    ·omega
    ·exact up i (hint - lK) (by omega) (by omega) l6
end
abbrev lR(lt:Kd->Kd->Bool)(l:List Kd):Prop:=l.Pairwise fun x y=>lt x y=true
structure iZ(lt:Kd->Kd->Bool)(a b out:List Kd)(ia ib:Nat):Prop where
 ha:ia<=a.length
 hb:ib<=b.length
 perm:out.Perm (a.take ia ++ b.take ib)
 o_:lR lt out
 lo: ∀x∈out, ∀y,(y∈a.drop ia\/y∈b.drop ib)->lt x y=true
section
variable {lt:Kd->Kd->Bool}{a b out:List Kd}{ia ib k:Nat}
theorem iZ.swap(m:iZ lt a b out ia ib):iZ lt b a out ib ia:=⟨m.hb,m.ha,m.perm.trans cY,m.o_,fun x hx y hy=>m.lo x hx y hy.symm⟩
theorem GN(a:List Kd)(i k:Nat):a.drop i=(a.drop i).take k ++ a.drop (i+k):=by
 rw [<-List.drop_drop,ba]
theorem iZ.pushA(m:iZ lt a b out ia ib)(hk:ia+k<=a.length)(sa:lR lt a)(h: ∀x∈(a.drop ia).take k, ∀y∈b.drop ib,lt x y=true):iZ lt a b (out ++ (a.drop ia).take k) (ia+k) ib:=by
 have sd:lR lt (a.drop ia):=dz (jD ia a) sa;have cut:=GN a ia k;have Q1:=sd;rw [cut]at Q1;have c:=bX.mp Q1;refine⟨hk,m.hb, ?_,bX.mpr ⟨m.o_,c.1,fun x hx y hy=>m.lo x hx y (.inl (f6 hy))⟩,fun x hx y hy=> ?_⟩
 ·have e:a.take (ia+k)=a.take ia ++ (a.drop ia).take k:=List.take_add;rw [e];refine(m.perm.append_right _).trans ?_;rw [aO,aO];exact eL _ cY
 ·rcases bO.mp hx with hx | hx
  ·exact m.lo x hx y (hy.imp (fun z=>by rw [cut]; exact a_ _ z) id)
  ·rcases hy with hy | hy
   ·exact c.2.2 x hx y hy
   ·exact h x hx y hy
theorem iZ.pushB(m:iZ lt a b out ia ib)(hk:ib+k<=b.length)(sb:lR lt b)(h: ∀x∈(b.drop ib).take k, ∀y∈a.drop ia,lt x y=true):iZ lt a b (out ++ (b.drop ib).take k) ia (ib+k):=(m.swap.pushA hk sb h).swap
theorem take_one{x:Kd}{i:Nat}(h:a[i]? =some x):(a.drop i).take 1= [x]:=by
 obtain⟨hi,e⟩:=aB.mp h;rw [iH hi,e];rfl
theorem above{S:Kd->Prop}(o:nC S lt)(sa:lR lt a){x y z:Kd}{i:Nat}(h:a[i]? =some x)(hz:lt z x=true)(hy:y∈a.drop i):lt z y=true:=by
 obtain⟨hi,e⟩:=aB.mp h;have sd:lR lt (a.drop i):=dz (jD i a) sa;rw [iH hi,e]at hy sd
 rcases aV.mp hy with rfl | hy
 ·exact hz
 ·exact o.tr _ _ _ hz ((cD.mp sd).1 y hy)
theorem iZ.finB(m:iZ lt a b out ia ib)(sa:lR lt a)(sb:lR lt b)(h: ∀x∈b.drop ib, ∀y∈a.drop ia,lt x y=true):(out ++ b.drop ib ++ a.drop ia).Perm (a ++ b)/\lR lt (out ++ b.drop ib ++ a.drop ia):=by
 constructor
 ·have e1:(a ++ b).Perm ((a.take ia ++ a.drop ia) ++ (b.take ib ++ b.drop ib)):=by rw [ba,ba]
  refine kQ ?_ e1.symm;rw [aO];refine(m.perm.append_right _).trans ?_;rw [aO,aO];refine eL _ ?_;rw [<-aO];exact cY
 ·refine bX.mpr ⟨bX.mpr ⟨m.o_,dz (jD ib b) sb,fun x hx y hy=>m.lo x hx y (.inr hy)⟩,dz (jD ia a) sa,fun x hx y hy=> ?_⟩
  rcases bO.mp hx with hx | hx
  ·exact m.lo x hx y (.inl hy)
  ·exact h x hx y hy
theorem iZ.finA(m:iZ lt a b out ia ib)(sa:lR lt a)(sb:lR lt b)(h: ∀x∈a.drop ia, ∀y∈b.drop ib,lt x y=true):(out ++ a.drop ia ++ b.drop ib).Perm (a ++ b)/\lR lt (out ++ a.drop ia ++ b.drop ib):=
 let⟨p,q⟩:=m.swap.finB sb sa h; ⟨p.trans cY,q⟩
end
def gN(st cq:cp):Prop:=kindOf cq=kindOf st/\br cq=br st/\cv cq=cv st/\ik cq=ik st
theorem gN.refl(st:cp):gN st st:=⟨rfl,rfl,rfl,rfl⟩
theorem gN.trans{a b c:cp}(x:gN a b)(y:gN b c):gN a c:=⟨y.1.trans x.1,y.2.1.trans x.2.1,y.2.2.1.trans x.2.2.1,y.2.2.2.trans x.2.2.2⟩
def Lq:Nat->StateT cp Sem Unit:=sortPriv% PySem.Builtin.setMinGallop
def HG:Array Kd->Array Kd->StateT cp Sem (Array Kd):=sortPriv% PySem.Builtin.mergeLo
def GU:Array Kd->Array Kd->StateT cp Sem (Array Kd):=sortPriv% PySem.Builtin.mergeHi
section
variable {prog:aH}{w:aW}{A:bA}{E:af->aj->Prop}{s:aj}{κ:kz}{S:Kd->Prop}{lt:Kd->Kd->Bool}{st:cp}
theorem mw{g:Nat}{Q:Unit->cp->Prop}(h: ∀cq,gN st cq->Q () cq):wpS (aC prog w) A E s (Lq g) Q st:=ow (h _ ⟨rfl,rfl,rfl,rfl⟩)
structure o7(S:Kd->Prop)(lt:Kd->Kd->Bool)(a b:Array Kd):Prop where
 sa:lR lt a.toList
 sb:lR lt b.toList
 Sa: ∀x∈a.toList,S x
 Sb: ∀x∈b.toList,S x
 ne: ∀x∈a.toList, ∀y∈b.toList,x≠y
 na:0 < a.size
 nb:0 < b.size
 fst: ∀x∈a.toList,lt (b[0]'nb) x=true
 lst: ∀x∈b.toList,lt x (a[a.size - 1]'(by omega))=true
theorem ck{α:Type}{c:Prop}{dc:Decidable c}{m1 m2:StateT cp Sem α}{Q:α->cp->Prop}(h1:c->wpS (aC prog w) A E s m1 Q st)(h2: ¬c->wpS (aC prog w) A E s m2 Q st):wpS (aC prog w) A E s (if c then m1 else m2) Q st:=by
 by_cases e:c
 ·rw [if_pos e]; exact h1 e
 ·rw [if_neg e]; exact h2 e
theorem ye(a:Array Kd)(i k:Nat):(a.extract i (i+k)).toList=(a.toList.drop i).take k:=by
 rw [ic,iG,jh]
theorem sZ(a:Array Kd)(i:Nat):(a.extract i).toList=a.toList.drop i:=by
 rw [ic,iG,dg];rw [bq,ao];omega
def Res(lt:Kd->Kd->Bool)(a b r:Array Kd):Prop:=r.toList.Perm (a.toList ++ b.toList)/\lR lt r.toList
theorem o7.ga{a b:Array Kd}(t:o7 S lt a b){i:Nat}(h:i < a.size):S a[i]:=t.Sa _ (by simp)
theorem o7.gb{a b:Array Kd}(t:o7 S lt a b){i:Nat}(h:i < b.size):S b[i]:=t.Sb _ (by simp)
theorem at_(a:Array Kd){i:Nat}(h:i < a.size):a[i]? =some a[i]:=by simp [h]
theorem Mj(a:Array Kd){i:Nat}(h:i < a.size):a.toList[i]? =some a[i]:=by simp [h]
theorem o7.nab{a b:Array Kd}(t:o7 S lt a b){i j:Nat}(h:i < a.size)(h':j < b.size):a[i]≠b[j]:=t.ne _ (by simp) _ (by simp)
theorem o7.upA{a b:Array Kd}(t:o7 S lt a b){i j:Nat}(h:i < j)(h':j < a.size):lt a[i] a[j]=true:=by
 have:=bY.mp t.sa i j (by rw [ao]; omega) (by rw [ao]; omega) h;simpa using this
theorem o7.upB{a b:Array Kd}(t:o7 S lt a b){i j:Nat}(h:i < j)(h':j < b.size):lt b[i] b[j]=true:=by
 have:=bY.mp t.sb i j (by rw [ao]; omega) (by rw [ao]; omega) h;simpa using this
theorem lV{a:Array Kd}{i:Nat}{y:Kd}(h:y∈a.toList.drop i): ∃j,i<=j/\ ∃hj:j < a.size,y=a[j]:=by
 obtain⟨k,hk,e⟩:=aT.mp h;rw [bq,ao]at hk;refine⟨i+k,by omega,by omega, ?_⟩;rw [<-e,dj];simp
theorem Du{a:Array Kd}{i k:Nat}{y:Kd}(h:y∈(a.toList.drop i).take k): ∃j,i<=j/\j < i+k/\ ∃hj:j < a.size,y=a[j]:=by
 obtain⟨m,hm,e⟩:=aT.mp h;rw [bh,bq,ao]at hm;refine⟨i+m,by omega,by omega,by omega, ?_⟩;rw [<-e,eC,dj];simp
section
variable {a b out:Array Kd}{ia ib:Nat}
theorem o7.doneB(t:o7 S lt a b)(m:iZ lt a.toList b.toList out.toList ia ib)(h:b.size<=ib\/a.size<=ia):Res lt a b (out ++ a.extract ia ++ b.extract ib):=by
 have:=m.finA t.sa t.sb fun x hx y hy=>by
  obtain⟨j,h1,h2,_⟩:=lV hx;obtain⟨j',Gh,JS,_⟩:=lV hy;omega
 unfold Res;rw [cG,cG,sZ,sZ];exact this
theorem o7.lastA(t:o7 S lt a b)(m:iZ lt a.toList b.toList out.toList ia ib)(h:ia+1=a.size):Res lt a b (out ++ b.extract ib ++ a.extract ia):=by
 have:=m.finB t.sa t.sb fun x hx y hy=>by
  obtain⟨j,h1,h2,rfl⟩:=lV hx;obtain⟨j',Gh,JS,rfl⟩:=lV hy;have:=t.lst b[j] (by simp);have e:j'=a.size - 1:=by omega
  subst e;exact this
 unfold Res;rw [cG,cG,sZ,sZ];exact this
theorem o7.oneB(o:nC S lt)(t:o7 S lt a b)(m:iZ lt a.toList b.toList out.toList ia ib)(hb:ib < b.size)(h: ∀y∈a.toList.drop ia,lt b[ib] y=true):iZ lt a.toList b.toList (out.push b[ib]).toList ia (ib+1):=by
 have:=m.pushB (k:=1) (by rw [ao]; omega) t.sb fun x hx y hy=>by
  rw [take_one (Mj b hb)]at hx
  rcases aJ.mp hx with rfl
  exact h y hy
 rw [take_one (Mj b hb)]at this;rw [jF];exact this
theorem o7.oneA(o:nC S lt)(t:o7 S lt a b)(m:iZ lt a.toList b.toList out.toList ia ib)(ha:ia < a.size)(h: ∀y∈b.toList.drop ib,lt a[ia] y=true):iZ lt a.toList b.toList (out.push a[ia]).toList (ia+1) ib:=by
 have:=m.pushA (k:=1) (by rw [ao]; omega) t.sa fun x hx y hy=>by
  rw [take_one (Mj a ha)]at hx
  rcases aJ.mp hx with rfl
  exact h y hy
 rw [take_one (Mj a ha)]at this;rw [jF];exact this
end
def TF(lt:Kd->Kd->Bool)(a b:Array Kd)(n:Nat)(c:Option (Array Kd)×Array Kd×Nat×Nat×Nat×Nat×Nat):Prop:=
 ∃out ia ib mg ac bc,c=(none,out,ia,ib,mg,ac,bc)/\iZ lt a.toList b.toList out.toList ia ib/\ib < b.size/\ia+1 < a.size/\n<=ia+ib
def Wg(lt:Kd->Kd->Bool)(a b:Array Kd)(n:Nat)(c:Option (Array Kd)×Array Kd×Nat×Nat×Nat×Nat×Nat):Prop:=
 (∃r rest,c=(some r,rest)/\Res lt a b r)\/TF lt a b n c
def Uh(lt:Kd->Kd->Bool)(a b:Array Kd)(n:Nat)(L:Prop):ForInStep (Option (Array Kd)×Array Kd×Nat×Nat×Nat×Nat×Nat)->Prop
 | .done c=>L/\Wg lt a b n c
 | .yield c=>L/\TF lt a b n c
set_option maxHeartbeats 4000000 in
theorem AG{a b:Array Kd}{Q:Array Kd->cp->Prop}(o:nC S lt)(c:uw prog w A s κ S lt)(hk:kindOf st=κ)(t:o7 S lt a b)
  (h: ∀(res:Array Kd) (cq:cp),gN st cq->Res lt a b res->Q res cq):wpS (aC prog w) A E s (HG a b) Q st:=by
 have na:=t.na;have nb:=t.nb;have m0:iZ lt a.toList b.toList (#[b[0]]:Array Kd).toList 0 1:=by
  have:iZ lt a.toList b.toList [] 0 0:=⟨bK _,bK _,dC _,eY,fun x hx=>by cases hx⟩;exact o7.oneB (out:= #[]) o t this nb t.fst
 refine aI (sG (fE ⟨rfl, ?_⟩));refine aI (c0 (at_ b nb) ?_);refine ck (fun e=> ?_) fun e1=> ?_
 ·have e:(1==b.size)=true:=e;exact aM (h _ _ (.refl _) (t.doneB m0 (.inl (by have:=beq_iff_eq.mp e; omega))))
 have e1: ¬1=b.size:=fun z=>e1 (beq_iff_eq.mpr z);refine ck (fun e=> ?_) fun e2=> ?_
 ·have e:(0+1==a.size)=true:=e;exact aM (h _ _ (.refl _) (t.lastA m0 (by have:=beq_iff_eq.mp e; omega)))
 have e2: ¬0+1=a.size:=fun z=>e2 (beq_iff_eq.mpr z);refine aI (ou ?_);refine aI (fh (dM (I:=fun x c cq=>gN st cq/\ ∃out ia ib mg,c=(none,out,ia,ib,mg)/\iZ lt a.toList b.toList out.toList ia ib/\ib < b.size/\ia+1 < a.size/\x+1<=ia+ib)
   (Q:=fun c cq=> ∃r rest,c=(some r,rest)/\gN st cq/\Res lt a b r) ?_ ?_ ⟨.refl _,_,0,1,_,rfl,m0,by omega,by omega,by omega⟩) ?_)
 ·rintro x c og _ hx ⟨L1,out,ia,ib,mg,rfl,m,Nn,ha1,Np⟩;have k1:kindOf og=κ:=L1.1.trans hk;refine aI (fh (dM (I:=fun y c cq=>cq=og/\ ∃j_ jW iO ac bc,c=(none,j_,jW,iO,ac,bc)/\iZ lt a.toList b.toList j_.toList jW iO/\iO < b.size/\jW+1 < a.size/\y+(ia+ib)<=jW+iO)
   (Q:=fun c cq=>cq=og/\((∃r rest,c=(some r,rest)/\Res lt a b r)\/ ∃j_ jW iO ac bc,c=(none,j_,jW,iO,ac,bc)/\iZ lt a.toList b.toList j_.toList jW iO/\iO < b.size/\jW+1 < a.size/\ia+ib+1<=jW+iO)) ?_ ?_ ⟨rfl,out,ia,ib,_,_,rfl,m,Nn,ha1,by omega⟩) ?_)
  ·rintro y c cq _ hy ⟨rfl,j_,jW,iO,ac,bc,rfl,m',ki,KL,qU⟩;have Bc:jW < a.size:=by omega
   refine aI (c0 (at_ b ki) ?_);refine aI (c0 (at_ a Bc) ?_);refine aI (uT c k1 (t.gb ki) (t.ga Bc) ?_);cases eq:lt b[iO] a[jW]with
   | true=>
    have m2:=t.oneB o m' ki fun y hy=>above o t.sa (Mj a Bc) eq hy;refine aI (c0 (at_ b ki) ?_);refine ck (fun e=> ?_) fun e=> ?_
    ·have e:(iO+1==b.size)=true:=e;exact aM ⟨rfl, .inl ⟨_,_,rfl,t.doneB (ia:=jW) (ib:=iO+1) m2 (.inl (by have:=beq_iff_eq.mp e; omega))⟩⟩
    ·have e: ¬iO+1=b.size:=fun z=>e (beq_iff_eq.mpr z);refine ck (fun e3=>aM ?_) fun e3=>aM ?_
     ·exact⟨rfl, .inr ⟨_,jW,iO+1,_,_,rfl,m2,by omega,by omega,by omega⟩⟩
     ·exact⟨rfl,_,jW,iO+1,_,_,rfl,m2,by omega,by omega,by omega⟩
   | false=>
    have eq2:=o.tot _ _ (t.gb ki) (t.ga Bc) (fun z=>t.nab Bc ki z.symm) eq;have m2:=t.oneA o m' Bc fun y hy=>above o t.sb (Mj b ki) eq2 hy;refine aI (c0 (at_ a Bc) ?_);refine ck (fun e=> ?_) fun e=> ?_
    ·have e:(jW+1+1==a.size)=true:=e;exact aM ⟨rfl, .inl ⟨_,_,rfl,t.lastA (ia:=jW+1) (ib:=iO) m2 (by have:=beq_iff_eq.mp e; omega)⟩⟩
    ·have e: ¬jW+1+1=a.size:=fun z=>e (beq_iff_eq.mpr z);refine ck (fun e3=>aM ?_) fun e3=>aM ?_
     ·exact⟨rfl, .inr ⟨_,jW+1,iO,_,_,rfl,m2,by omega,by omega,by omega⟩⟩
     ·exact⟨rfl,_,jW+1,iO,_,_,rfl,m2,by omega,by omega,by omega⟩
  ·rintro c cq ⟨rfl,j_,jW,iO,ac,bc,rfl,m',ki,KL,qU⟩;exact⟨rfl, .inr ⟨_,jW,iO,_,_,rfl,m',ki,KL,by omega⟩⟩
  ·rintro c cq ⟨rfl,⟨r,rest,rfl,hr⟩ | ⟨out1,ia1,ib1,ac1,bc1,rfl,m1,PZ,ha2,Kg⟩⟩
   ·exact aM ⟨_,_,rfl,L1,hr⟩
   ·refine aI (sG (fE ⟨rfl, ?_⟩));refine aI (fh (dM (I:=fun y c cq=>gN st cq/\TF lt a b (ia1+ib1) c)
     (Q:=fun c cq=>gN st cq/\Wg lt a b (ia1+ib1) c) ?_ ?_ ⟨L1,_,_,_,_,_,_,rfl,m1,PZ,ha2,ay _⟩) ?_)
    ·rintro y c cq _ hy ⟨L',j_,jW,iO,mg',ac,bc,rfl,m',ki,KL,qU⟩;have Bc:jW < a.size:=by omega
     extract_lets v1 v2 v3 v4 v5 v6 v7 v8 v9 v10 v11 v12 jp v14
     have q2:j_=v2:=rfl;have q4:jW=v4:=rfl;have q6:iO=v6:=rfl;have UR:bc=v11:=rfl;have Vh:iO+1=v12:=rfl
     clear_value v2 v4 v6 v11 v12
     subst q2 q4 q6 UR Vh;have J: ∀g,wpS (aC prog w) A E s (jp () g) (fun r mY=>Uh lt a b (ia1+ib1) (gN st mY) r) cq:=fun g=>by
      refine aI (mw fun sj L3=> ?_);have L3:=L'.trans L3;have k3:kindOf sj=κ:=L3.1.trans hk;refine aI (c0 (at_ b ki) ?_);refine aI (jq (g:=fun i=>a.getD (jW+i) b[iO]) o c k3 (fun i hi=> ?_) (fun i hi=> ?_) (fun i hi=> ?_) (t.gb ki) (fun i j kS hj=> ?_) (by omega) fun k SM g1 g2=> ?_)
      ·have:jW+i < a.size:=by omega
       simp [this]
      ·have:jW+i < a.size:=by omega
       simpa [this]using t.ga this
      ·have:jW+i < a.size:=by omega
       simpa [this]using t.nab this ki
      ·have h1:jW+i < a.size:=by omega
       have h2:jW+j < a.size:=by omega
       simpa [h1,h2]using t.upA (show jW+i < jW+j by omega) h2
      have m3:iZ lt a.toList b.toList (j_ ++ a.extract jW (jW+k)).toList (jW+k) iO:=by
       rw [cG,ye];refine m'.pushA (by rw [ao]; omega) t.sa fun x hx y hy=> ?_;obtain⟨j,j1,j2,hj,rfl⟩:=Du hx;have z:=g1 (j - jW) (by omega);have e:jW+(j - jW)=j:=by omega
       rw [e]at z;have z:lt a[j] b[iO]=true:=by simpa [hj]using z
       exact above o t.sb (Mj b ki) z hy
      have u3: ∀y∈a.toList.drop (jW+k),lt b[iO] y=true:=fun y hy=>by
       obtain⟨j,j1,hj,rfl⟩:=lV hy;have z:=g2 (j - jW) (by omega) (by omega);have e:jW+(j - jW)=j:=by omega
       rw [e]at z;have z:lt a[j] b[iO]=false:=by simpa [hj]using z
       exact o.tot _ _ (t.ga hj) (t.gb ki) (t.nab hj ki) z
      dsimp -zeta only
      extract_lets ac2 jp2 out2 ia2
      have J2: ∀(yN:Array Kd) (wt:Nat),iZ lt a.toList b.toList yN.toList wt iO->wt+1 < a.size->jW<=wt->(∀y∈a.toList.drop wt,lt b[iO] y=true)->wpS (aC prog w) A E s (jp2 () yN wt) (fun r mY=>Uh lt a b (ia1+ib1) (gN st mY) r) sj:=fun yN wt m3 h3 l3 u3=>by
       have m4:=t.oneB o m3 ki u3;have A1:wt < a.size:=by omega
       refine aI (c0 (at_ b ki) ?_);refine ck (fun e=> ?_) fun e=> ?_
       ·have e:(iO+1==b.size)=true:=e;exact aM ⟨L3, .inl ⟨_,_,rfl,t.doneB (ia:=wt) (ib:=iO+1) m4 (.inl (by have:=beq_iff_eq.mp e; omega))⟩⟩
       have e: ¬iO+1=b.size:=fun z=>e (beq_iff_eq.mpr z);refine aI (c0 (at_ a A1) ?_);refine aI (jq (g:=fun i=>b.getD (iO+1+i) a[wt]) o c k3 (fun i hi=> ?_) (fun i hi=> ?_) (fun i hi=> ?_) (t.ga A1) (fun i j kS hj=> ?_) (by omega) fun k2 pZ r1 r2=> ?_)
       ·have:iO+1+i < b.size:=by omega
        simp [this]
       ·have:iO+1+i < b.size:=by omega
        simpa [this]using t.gb this
       ·have:iO+1+i < b.size:=by omega
        simpa [this]using fun z=>t.nab A1 this (Eq.symm z)
       ·have h1:iO+1+i < b.size:=by omega
        have h2:iO+1+j < b.size:=by omega
        simpa [h1,h2]using t.upB (show iO+1+i < iO+1+j by omega) h2
       have m5:iZ lt a.toList b.toList (yN.push b[iO] ++ b.extract (iO+1) (iO+1+k2)).toList wt (iO+1+k2):=by
        rw [cG,ye];refine m4.pushB (by rw [ao]; omega) t.sb fun x hx y hy=> ?_;obtain⟨j,j1,j2,hj,rfl⟩:=Du hx;have z:=r1 (j - (iO+1)) (by omega);have e:iO+1+(j - (iO+1))=j:=by omega
        rw [e]at z;have z:lt b[j] a[wt]=true:=by simpa [hj]using z
        exact above o t.sa (Mj a A1) z hy
       have u5: ∀y∈b.toList.drop (iO+1+k2),lt a[wt] y=true:=fun y hy=>by
        obtain⟨j,j1,hj,rfl⟩:=lV hy;have z:=r2 (j - (iO+1)) (by omega) (by omega);have e:iO+1+(j - (iO+1))=j:=by omega
        rw [e]at z;have z:lt b[j] a[wt]=false:=by simpa [hj]using z
        exact o.tot _ _ (t.gb hj) (t.ga A1) (fun z=>t.nab A1 hj z.symm) z
       dsimp -zeta only
       extract_lets bc2 ia6 jp3 out4 ib4
       have J3: ∀(CZ:Array Kd) (MB:Nat),iZ lt a.toList b.toList CZ.toList wt MB->MB < b.size->iO+1<=MB->(∀y∈b.toList.drop MB,lt a[wt] y=true)->wpS (aC prog w) A E s (jp3 () CZ MB) (fun r mY=>Uh lt a b (ia1+ib1) (gN st mY) r) sj:=fun CZ MB m5 h5 l5 u5=>by
        have m6:=t.oneA o m5 A1 u5;refine aI (c0 (at_ a A1) ?_);refine ck (fun e=> ?_) fun e=> ?_
        ·have e:(wt+1+1==a.size)=true:=e;exact aM ⟨L3, .inl ⟨_,_,rfl,t.lastA (ia:=wt+1) (ib:=MB) m6 (by have:=beq_iff_eq.mp e; omega)⟩⟩
        ·have e: ¬wt+1+1=a.size:=fun z=>e (beq_iff_eq.mpr z);refine ck (fun _=>aM ?_) fun _=>aM ?_
         ·exact⟨L3, .inr ⟨_,wt+1,MB,_,_,_,rfl,m6,h5,by omega,by omega⟩⟩
         ·exact⟨L3,_,wt+1,MB,_,_,_,rfl,m6,h5,by omega,by omega⟩
       refine ck (fun e2=> ?_) fun e2=> ?_
       ·refine ck (fun e3=> ?_) fun e3=> ?_
        ·have e3:(iO+1+k2==b.size)=true:=e3;exact aM ⟨L3, .inl ⟨_,_,rfl,t.doneB (ia:=wt) (ib:=iO+1+k2) m5 (.inl (by have:=beq_iff_eq.mp e3; omega))⟩⟩
        ·have e3: ¬iO+1+k2=b.size:=fun z=>e3 (beq_iff_eq.mpr z);exact J3 _ _ m5 (by omega) (by omega) u5
       ·have z:k2=0:=by omega
        subst z;exact J3 _ _ m4 (by omega) (by omega) u5
      refine ck (fun e2=> ?_) fun e2=> ?_
      ·refine ck (fun e3=> ?_) fun e3=> ?_
       ·have e3:(jW+k+1==a.size)=true:=e3;exact aM ⟨L3, .inl ⟨_,_,rfl,t.lastA (ia:=jW+k) (ib:=iO) m3 (by have:=beq_iff_eq.mp e3; omega)⟩⟩
       ·have e3: ¬jW+k+1=a.size:=fun z=>e3 (beq_iff_eq.mpr z);refine ck (fun e4=> ?_) fun e4=> ?_
        ·have e4:(jW+k==a.size)=true:=e4;exact aM ⟨L3, .inl ⟨_,_,rfl,t.doneB (ia:=jW+k) (ib:=iO) m3 (.inr (by have:=beq_iff_eq.mp e4; omega))⟩⟩
        ·have e4: ¬jW+k=a.size:=fun z=>e4 (beq_iff_eq.mpr z);exact J2 _ _ m3 (by omega) (by omega) u3
      ·have z:k=0:=by omega
       subst z;exact J2 _ _ m' (by omega) (by omega) u3
     exact ck (fun _=>fh (J _) fun r mY z=>by cases r <;> exact z) fun _=>fh (J _) fun r mY z=>by cases r <;> exact z
    ·rintro c cq ⟨L',j_,jW,iO,mg',ac,bc,rfl,m',ki,KL,qU⟩;exact⟨L', .inr ⟨_,_,_,_,_,_,rfl,m',ki,KL,qU⟩⟩
    ·rintro c cq ⟨L',⟨r,rest,rfl,hr⟩ | ⟨j_,jW,iO,mg',ac,bc,rfl,m',ki,KL,qU⟩⟩
     ·exact aM ⟨_,_,rfl,L',hr⟩
     ·refine aI (mw fun sj L3=>aM ?_);exact⟨L'.trans L3,_,jW,iO,_,rfl,m',ki,KL,by omega⟩
 ·rintro c cq ⟨L',out,ia,ib,mg,rfl,m,Nn,ha1,Np⟩;omega
 ·rintro c cq ⟨r,rest,rfl,L',hr⟩;exact aM (h r cq L' hr)
end
structure i5(lt:Kd->Kd->Bool)(a b out:List Kd)(na nb:Nat):Prop where
 ha:na<=a.length
 hb:nb<=b.length
 perm:out.Perm (a.drop na ++ b.drop nb)
 o_:lR lt out
 hi: ∀x,(x∈a.take na\/x∈b.take nb)-> ∀y∈out,lt x y=true
section
variable {lt:Kd->Kd->Bool}{a b out:List Kd}{na nb k:Nat}
theorem i5.swap(m:i5 lt a b out na nb):i5 lt b a out nb na:=⟨m.hb,m.ha,m.perm.trans cY,m.o_,fun x hx y hy=>m.hi x hx.symm y hy⟩
theorem Hj(a:List Kd){i n:Nat}(h:i<=n):a.take n=a.take i ++ (a.take n).drop i:=by
 have:=ba i (a.take n);rw [List.take_take,NO h]at this;exact this.symm
theorem Es(a:List Kd){i n:Nat}(h:i<=n)(hn:n<=a.length):a.drop i=(a.take n).drop i ++ a.drop n:=by
 have e:a=a.take n ++ a.drop n:=(ba n a).symm
 conv=>lhs; rw [e]
 exact vM (by rw [bh]; omega)
theorem i5.preA(m:i5 lt a b out na nb)(hk:k<=na)(sa:lR lt a)(h: ∀x∈(a.take na).drop k, ∀y∈b.take nb,lt y x=true):i5 lt a b ((a.take na).drop k ++ out) k nb:=by
 have sd:lR lt (a.take na):=dz (jx na a) sa;have cut:=Hj a hk;have Q1:=sd;rw [cut]at Q1;have c:=bX.mp Q1;have mm: ∀x,x∈(a.take na).drop k->x∈a.take na:=fun x hx=>fX hx;refine⟨bg hk m.ha,m.hb, ?_,bX.mpr ⟨c.2.1,m.o_,fun x hx y hy=>m.hi x (.inl (mm x hx)) y hy⟩,fun x hx y hy=> ?_⟩
 ·rw [Es a hk m.ha,aO];exact eL _ m.perm
 ·rcases bO.mp hy with hy | hy
  ·rcases hx with hx | hx
   ·exact c.2.2 x hx y hy
   ·exact h y hy x hx
  ·exact m.hi x (hx.imp (fun z=>by rw [cut]; exact fU _ z) id) y hy
theorem i5.preB(m:i5 lt a b out na nb)(hk:k<=nb)(sb:lR lt b)(h: ∀x∈(b.take nb).drop k, ∀y∈a.take na,lt y x=true):i5 lt a b ((b.take nb).drop k ++ out) na k:=(m.swap.preA hk sb h).swap
theorem i5.finA(m:i5 lt a b out na nb)(sa:lR lt a)(sb:lR lt b)(h: ∀x∈a.take na, ∀y∈b.take nb,lt x y=true):(a.take na ++ b.take nb ++ out).Perm (a ++ b)/\lR lt (a.take na ++ b.take nb ++ out):=by
 constructor
 ·have e1:(a ++ b).Perm ((a.take na ++ a.drop na) ++ (b.take nb ++ b.drop nb)):=by rw [ba,ba]
  refine kQ ?_ e1.symm;refine(m.perm.append_left _).trans ?_;rw [aO,aO];refine eL _ ?_;rw [<-aO, <-aO];exact cY.append_right _
 ·refine bX.mpr ⟨bX.mpr ⟨dz (jx na a) sa,dz (jx nb b) sb,h⟩,m.o_,fun x hx y hy=>m.hi x (bO.mp hx) y hy⟩
theorem i5.finB(m:i5 lt a b out na nb)(sa:lR lt a)(sb:lR lt b)(h: ∀x∈b.take nb, ∀y∈a.take na,lt x y=true):(b.take nb ++ a.take na ++ out).Perm (a ++ b)/\lR lt (b.take nb ++ a.take na ++ out):=
 let⟨p,q⟩:=m.swap.finA sb sa h; ⟨p.trans cY,q⟩
end
section
variable {prog:aH}{w:aW}{A:bA}{E:af->aj->Prop}{s:aj}{κ:kz}{S:Kd->Prop}{lt:Kd->Kd->Bool}{st:cp}
theorem tF(a:Array Kd)(n:Nat):(a.extract 0 n).toList=a.toList.take n:=by
 rw [ic,iG,Nat.sub_zero,qc]
theorem xR(a:Array Kd)(i n:Nat):(a.extract i n).toList=(a.toList.take n).drop i:=by
 rw [ic,iG,List.drop_take]
theorem jK{a:Array Kd}{i:Nat}{y:Kd}(h:y∈a.toList.take i): ∃j,j < i/\ ∃hj:j < a.size,y=a[j]:=by
 obtain⟨k,hk,e⟩:=aT.mp h;rw [bh,ao]at hk;refine⟨k,by omega,by omega, ?_⟩;rw [<-e,eC];simp
theorem mem_mid{a:Array Kd}{i n:Nat}{y:Kd}(h:y∈(a.toList.take n).drop i): ∃j,i<=j/\j < n/\ ∃hj:j < a.size,y=a[j]:=by
 obtain⟨m,hm,e⟩:=aT.mp h;rw [bq,bh,ao]at hm;refine⟨i+m,by omega,by omega,by omega, ?_⟩;rw [<-e,dj,eC];simp
section
variable {a b out:Array Kd}{na nb:Nat}
theorem tJ{i:Nat}(h:i < a.size):(a.toList.take (i+1)).drop i= [a[i]]:=by
 rw [di,Mj a h,vM (by rw [bh,ao]; omega)];rw [fu (by rw [bh,ao]; omega)];rfl
theorem ID(o:nC S lt)(t:o7 S lt a b){i n:Nat}{y z:Kd}(hi:i < a.size)(hn:n<=i+1)(hy:y∈a.toList.take n)(h:lt a[i] z=true):lt y z=true:=by
 obtain⟨j,j1,hj,rfl⟩:=jK hy
 by_cases e:j=i
 ·subst e; exact h
 ·exact o.tr _ _ _ (t.upA (show j < i by omega) hi) h
theorem IZ(o:nC S lt)(t:o7 S lt a b){i n:Nat}{y z:Kd}(hi:i < b.size)(hn:n<=i+1)(hy:y∈b.toList.take n)(h:lt b[i] z=true):lt y z=true:=by
 obtain⟨j,j1,hj,rfl⟩:=jK hy
 by_cases e:j=i
 ·subst e; exact h
 ·exact o.tr _ _ _ (t.upB (show j < i by omega) hi) h
theorem o7.done0(t:o7 S lt a b)(m:i5 lt a.toList b.toList out.toList.reverse na nb)(h:na=0\/nb=0):Res lt a b (a.extract 0 na ++ b.extract 0 nb ++ out.reverse):=by
 have:=m.finA t.sa t.sb fun x hx y hy=>by
  obtain⟨j,h1,h2,_⟩:=jK hx;obtain⟨j',Gh,JS,_⟩:=jK hy;omega
 unfold Res;rw [cG,cG,tF,tF,qf];exact this
theorem o7.fstB(t:o7 S lt a b)(m:i5 lt a.toList b.toList out.toList.reverse na nb)(h:nb=1):Res lt a b (b.extract 0 nb ++ a.extract 0 na ++ out.reverse):=by
 have:=m.finB t.sa t.sb fun x hx y hy=>by
  obtain⟨j,h1,h2,rfl⟩:=jK hx;obtain⟨j',Gh,JS,rfl⟩:=jK hy;have e:j=0:=by omega
  subst e;exact t.fst a[j'] (by simp)
 unfold Res;rw [cG,cG,tF,tF,qf];exact this
theorem o7.preB1(t:o7 S lt a b)(m:i5 lt a.toList b.toList out.toList.reverse na (nb+1))(hb:nb < b.size)(h: ∀y∈a.toList.take na,lt y b[nb]=true):i5 lt a.toList b.toList (out.push b[nb]).toList.reverse na nb:=by
 have:=m.preB (k:=nb) (by omega) t.sb fun x hx y hy=>by
  rw [tJ hb]at hx
  rcases aJ.mp hx with rfl
  exact h y hy
 rw [tJ hb]at this;rw [jF,qP];exact this
theorem o7.preA1(t:o7 S lt a b)(m:i5 lt a.toList b.toList out.toList.reverse (na+1) nb)(ha:na < a.size)(h: ∀y∈b.toList.take nb,lt y a[na]=true):i5 lt a.toList b.toList (out.push a[na]).toList.reverse na nb:=by
 have:=m.preA (k:=na) (by omega) t.sa fun x hx y hy=>by
  rw [tJ ha]at hx
  rcases aJ.mp hx with rfl
  exact h y hy
 rw [tJ ha]at this;rw [jF,qP];exact this
end
def To(lt:Kd->Kd->Bool)(a b:Array Kd)(n:Nat)(c:Option (Array Kd)×Nat×Nat×Array Kd×Nat×Nat×Nat):Prop:=
 ∃na nb out mg ac bc,c=(none,na+1,nb+2,out,mg,ac,bc)/\i5 lt a.toList b.toList out.toList.reverse (na+1) (nb+2)/\na+nb<=n
def Wf(lt:Kd->Kd->Bool)(a b:Array Kd)(n:Nat)(c:Option (Array Kd)×Nat×Nat×Array Kd×Nat×Nat×Nat):Prop:=
 (∃r rest,c=(some r,rest)/\Res lt a b r)\/To lt a b n c
def TR(lt:Kd->Kd->Bool)(a b:Array Kd)(n:Nat)(L:Prop):ForInStep (Option (Array Kd)×Nat×Nat×Array Kd×Nat×Nat×Nat)->Prop
 | .done c=>L/\Wf lt a b n c
 | .yield c=>L/\To lt a b n c
set_option maxHeartbeats 4000000 in
theorem zH{a b:Array Kd}{Q:Array Kd->cp->Prop}(o:nC S lt)(c:uw prog w A s κ S lt)(hk:kindOf st=κ)(t:o7 S lt a b)
  (h: ∀(res:Array Kd) (cq:cp),gN st cq->Res lt a b res->Q res cq):wpS (aC prog w) A E s (GU a b) Q st:=by
 have na0:=t.na;have nb0:=t.nb;obtain⟨a1,ea⟩: ∃a1,a.size=a1+1:=⟨a.size - 1,by omega⟩;obtain⟨b1,eb⟩: ∃b1,b.size=b1+1:=⟨b.size - 1,by omega⟩;have MC:a1 < a.size:=by omega
 have m0:i5 lt a.toList b.toList (#[a[a1]]:Array Kd).toList.reverse a1 (b1+1):=by
  have:i5 lt a.toList b.toList [] (a1+1) (b1+1):=⟨by rw [ao]; omega,by rw [ao]; omega,by rw [fu (by rw [ao]; omega),fu (by rw [ao]; omega)]; exact dC _,eY,fun x hx y hy=>by cases hy⟩;refine o7.preA1 (out:= #[]) t this MC fun y hy=> ?_;have:=t.lst y (f6 hy);have e:a.size - 1=a1:=by omega
  simpa [e]using this
 refine aI (sG (fE ⟨rfl, ?_⟩));have e0:a[a.size - 1]? =some a[a1]:=by rw [show a.size - 1=a1 by omega]; exact at_ a MC
 refine aI (c0 e0 ?_);have Zy:a.size - 1=a1:=by omega
 rw [Zy,eb];refine ck (fun e=> ?_) fun e1=> ?_
 ·have e:(a1==0)=true:=e;exact aM (h _ _ (.refl _) (t.done0 m0 (.inl (beq_iff_eq.mp e))))
 have e1: ¬a1=0:=fun z=>e1 (beq_iff_eq.mpr z);refine ck (fun e=> ?_) fun e2=> ?_
 ·have e:(b1+1==1)=true:=e;exact aM (h _ _ (.refl _) (t.fstB m0 (beq_iff_eq.mp e)))
 have e2: ¬b1+1=1:=fun z=>e2 (beq_iff_eq.mpr z);refine aI (ou ?_);refine aI (fh (dM (I:=fun x c cq=>gN st cq/\ ∃na nb out mg,c=(none,na+1,nb+2,out,mg)/\i5 lt a.toList b.toList out.toList.reverse (na+1) (nb+2)/\x+na+nb+4<=a.size+(b1+1))
   (Q:=fun c cq=> ∃r rest,c=(some r,rest)/\gN st cq/\Res lt a b r) ?_ ?_ ⟨.refl _,a1 - 1,b1 - 1,_,_,by rw [show a1 - 1+1=a1 by omega,show b1 - 1+2=b1+1 by omega],by rw [show a1 - 1+1=a1 by omega,show b1 - 1+2=b1+1 by omega]; exact m0,by omega⟩) ?_)
 ·rintro x c og _ hx ⟨L1,na,nb,out,mg,rfl,m,Np⟩;have k1:kindOf og=κ:=L1.1.trans hk;refine aI (fh (dM (I:=fun y c cq=>cq=og/\ ∃pY kU j_ ac bc,c=(none,pY+1,kU+2,j_,ac,bc)/\i5 lt a.toList b.toList j_.toList.reverse (pY+1) (kU+2)/\y+(pY+kU)<=na+nb)
   (Q:=fun c cq=>cq=og/\((∃r rest,c=(some r,rest)/\Res lt a b r)\/ ∃pY kU j_ ac bc,c=(none,pY+1,kU+2,j_,ac,bc)/\i5 lt a.toList b.toList j_.toList.reverse (pY+1) (kU+2)/\pY+kU+1<=na+nb)) ?_ ?_ ⟨rfl,na,nb,out,_,_,rfl,m,by omega⟩) ?_)
  ·rintro y c cq _ hy ⟨rfl,pY,kU,j_,ac,bc,rfl,m',qU⟩;have Bc:pY < a.size:=by have:=m'.ha; rw [ao]at this; omega
   have Bx:kU+1 < b.size:=by have:=m'.hb; rw [ao]at this; omega
   refine aI (c0 (at_ b Bx) ?_);refine aI (c0 (at_ a Bc) ?_);refine aI (uT c k1 (t.gb Bx) (t.ga Bc) ?_);cases eq:lt b[kU+1] a[pY]with
   | true=>
    have m2:=t.preA1 m' Bc fun y hy=>IZ o t Bx (by omega) hy eq;refine aI (c0 (at_ a Bc) ?_);refine ck (fun e=> ?_) fun e=> ?_
    ·have e:(pY==0)=true:=e;exact aM ⟨rfl, .inl ⟨_,_,rfl,t.done0 (na:=pY) (nb:=kU+2) m2 (.inl (beq_iff_eq.mp e))⟩⟩
    ·have e: ¬pY=0:=fun z=>e (beq_iff_eq.mpr z);obtain⟨n2,rfl⟩: ∃n2,pY=n2+1:=⟨pY - 1,by omega⟩;refine ck (fun e3=>aM ?_) fun e3=>aM ?_
     ·exact⟨rfl, .inr ⟨n2,kU,_,_,_,rfl,m2,by omega⟩⟩
     ·exact⟨rfl,n2,kU,_,_,_,rfl,m2,by omega⟩
   | false=>
    have eq2:=o.tot _ _ (t.gb Bx) (t.ga Bc) (fun z=>t.nab Bc Bx z.symm) eq;have m2:=t.preB1 (nb:=kU+1) m' Bx fun y hy=>ID o t Bc (by omega) hy eq2;refine aI (c0 (at_ b Bx) ?_);refine ck (fun e=> ?_) fun e=> ?_
    ·have e:(kU+1==1)=true:=e;exact aM ⟨rfl, .inl ⟨_,_,rfl,t.fstB (na:=pY+1) (nb:=kU+1) m2 (beq_iff_eq.mp e)⟩⟩
    ·have e: ¬kU+1=1:=fun z=>e (beq_iff_eq.mpr z);obtain⟨n2,rfl⟩: ∃n2,kU=n2+1:=⟨kU - 1,by omega⟩;refine ck (fun e3=>aM ?_) fun e3=>aM ?_
     ·exact⟨rfl, .inr ⟨pY,n2,_,_,_,rfl,m2,by omega⟩⟩
     ·exact⟨rfl,pY,n2,_,_,_,rfl,m2,by omega⟩
  ·rintro c cq ⟨rfl,pY,kU,j_,ac,bc,rfl,m',qU⟩;exact⟨rfl, .inr ⟨pY,kU,_,_,_,rfl,m',by omega⟩⟩
  ·rintro c cq ⟨rfl,⟨r,rest,rfl,hr⟩ | ⟨na1,nb1,out1,ac1,bc1,rfl,m1,Kg⟩⟩
   ·exact aM ⟨_,_,rfl,L1,hr⟩
   ·refine aI (sG (fE ⟨rfl, ?_⟩));refine aI (fh (dM (I:=fun y c cq=>gN st cq/\To lt a b (na1+nb1) c)
     (Q:=fun c cq=>gN st cq/\Wf lt a b (na1+nb1) c) ?_ ?_ ⟨L1,na1,nb1,_,_,_,_,rfl,m1,ay _⟩) ?_)
    ·rintro y c cq _ hy ⟨L',pY,kU,j_,mg',ac,bc,rfl,m',qU⟩;have Bc:pY < a.size:=by have:=m'.ha; rw [ao]at this; omega
     have Bx:kU+1 < b.size:=by have:=m'.hb; rw [ao]at this; omega
     extract_lets v1 v2 v3 v4 v5 v6 v7 v8 v9 v10 v11 v12 jp v14
     have q2:pY+1=v2:=rfl;have q4:kU+2=v4:=rfl;have q6:j_=v6:=rfl;have UR:bc=v11:=rfl;have Vh:kU+1=v12:=rfl
     clear_value v2 v4 v6 v11 v12
     subst q2 q4 q6 UR Vh;have J: ∀g,wpS (aC prog w) A E s (jp () g) (fun r mY=>TR lt a b (na1+nb1) (gN st mY) r) cq:=fun g=>by
      refine aI (mw fun sj L3=> ?_);have L3:=L'.trans L3;have k3:kindOf sj=κ:=L3.1.trans hk;refine aI (c0 (at_ b Bx) ?_);refine aI (jq (g:=fun i=>a.getD i b[kU+1]) o c k3 (fun i hi=> ?_) (fun i hi=> ?_) (fun i hi=> ?_) (t.gb Bx) (fun i j kS hj=> ?_) (by omega) fun k SM g1 g2=> ?_)
      ·have:i < a.size:=by omega
       simp [this]
      ·have:i < a.size:=by omega
       simpa [this]using t.ga this
      ·have:i < a.size:=by omega
       simpa [this]using t.nab this Bx
      ·have h1:i < a.size:=by omega
       have h2:j < a.size:=by omega
       simpa [h1,h2]using t.upA kS h2
      have m3:i5 lt a.toList b.toList (j_ ++ (a.extract k (pY+1)).reverse).toList.reverse k (kU+2):=by
       rw [cG,qf,qP,List.reverse_reverse,xR];refine m'.preA SM t.sa fun x hx y hy=> ?_;obtain⟨j,j1,j2,hj,rfl⟩:=mem_mid hx;have z:=g2 j j1 j2;have z:lt a[j] b[kU+1]=false:=by simpa [hj]using z
       exact IZ o t Bx (by omega) hy (o.tot _ _ (t.ga hj) (t.gb Bx) (t.nab hj Bx) z)
      have u3: ∀y∈a.toList.take k,lt y b[kU+1]=true:=fun y hy=>by
       obtain⟨j,j1,hj,rfl⟩:=jK hy;have z:=g1 j j1;simpa [hj]using z
      dsimp -zeta only
      extract_lets kk ac2 jp2 out2
      have J2: ∀(Nt:Nat) (yN:Array Kd),i5 lt a.toList b.toList yN.toList.reverse Nt (kU+2)->1<=Nt->Nt<=pY+1->(∀y∈a.toList.take Nt,lt y b[kU+1]=true)->wpS (aC prog w) A E s (jp2 () Nt yN) (fun r mY=>TR lt a b (na1+nb1) (gN st mY) r) sj:=fun Nt yN m3 h3 l3 u3=>by
       have m4:=t.preB1 (nb:=kU+1) m3 Bx u3;obtain⟨p,rfl⟩: ∃p,Nt=p+1:=⟨Nt - 1,by omega⟩;have A1:p < a.size:=by omega
       refine aI (c0 (at_ b Bx) ?_);refine ck (fun e=> ?_) fun e=> ?_
       ·have e:(kU+1==1)=true:=e;exact aM ⟨L3, .inl ⟨_,_,rfl,t.fstB (na:=p+1) (nb:=kU+1) m4 (beq_iff_eq.mp e)⟩⟩
       have e: ¬kU+1=1:=fun z=>e (beq_iff_eq.mpr z);refine aI (c0 (at_ a A1) ?_);refine aI (jq (g:=fun i=>b.getD i a[p]) o c k3 (fun i hi=> ?_) (fun i hi=> ?_) (fun i hi=> ?_) (t.ga A1) (fun i j kS hj=> ?_) (by omega) fun k2 pZ r1 r2=> ?_)
       ·have:i < b.size:=by omega
        simp [this]
       ·have:i < b.size:=by omega
        simpa [this]using t.gb this
       ·have:i < b.size:=by omega
        simpa [this]using fun z=>t.nab A1 this (Eq.symm z)
       ·have h1:i < b.size:=by omega
        have h2:j < b.size:=by omega
        simpa [h1,h2]using t.upB kS h2
       have m5:i5 lt a.toList b.toList (yN.push b[kU+1] ++ (b.extract k2 (kU+1)).reverse).toList.reverse (p+1) k2:=by
        rw [cG,qf,qP,List.reverse_reverse,xR];refine m4.preB pZ t.sb fun x hx y hy=> ?_;obtain⟨j,j1,j2,hj,rfl⟩:=mem_mid hx;have z:=r2 j j1 j2;have z:lt b[j] a[p]=false:=by simpa [hj]using z
        exact ID o t A1 (by omega) hy (o.tot _ _ (t.gb hj) (t.ga A1) (fun z=>t.nab A1 hj z.symm) z)
       have u5: ∀y∈b.toList.take k2,lt y a[p]=true:=fun y hy=>by
        obtain⟨j,j1,hj,rfl⟩:=jK hy;have z:=r1 j j1;simpa [hj]using z
       dsimp -zeta only
       extract_lets kk2 bc2 na6 jp3 out4
       have J3: ∀(Nw:Nat) (CZ:Array Kd),i5 lt a.toList b.toList CZ.toList.reverse (p+1) Nw->2<=Nw->Nw<=kU+1->(∀y∈b.toList.take Nw,lt y a[p]=true)->wpS (aC prog w) A E s (jp3 () Nw CZ) (fun r mY=>TR lt a b (na1+nb1) (gN st mY) r) sj:=fun Nw CZ m5 h5 l5 u5=>by
        have m6:=t.preA1 m5 A1 u5;obtain⟨q,rfl⟩: ∃q,Nw=q+2:=⟨Nw - 2,by omega⟩;refine aI (c0 (at_ a A1) ?_);refine ck (fun e=> ?_) fun e=> ?_
        ·have e:(p==0)=true:=e;exact aM ⟨L3, .inl ⟨_,_,rfl,t.done0 (na:=p) (nb:=q+2) m6 (.inl (beq_iff_eq.mp e))⟩⟩
        ·have e: ¬p=0:=fun z=>e (beq_iff_eq.mpr z);obtain⟨p2,rfl⟩: ∃p2,p=p2+1:=⟨p - 1,by omega⟩;refine ck (fun _=>aM ?_) fun _=>aM ?_
         ·exact⟨L3, .inr ⟨p2,q,_,_,_,_,rfl,m6,by omega⟩⟩
         ·exact⟨L3,p2,q,_,_,_,_,rfl,m6,by omega⟩
       refine ck (fun e2=> ?_) fun e2=> ?_
       ·refine ck (fun e3=> ?_) fun e3=> ?_
        ·have e3:(k2==1)=true:=e3;exact aM ⟨L3, .inl ⟨_,_,rfl,t.fstB (na:=p+1) (nb:=k2) m5 (beq_iff_eq.mp e3)⟩⟩
        ·have e3: ¬k2=1:=fun z=>e3 (beq_iff_eq.mpr z);refine ck (fun e4=> ?_) fun e4=> ?_
         ·have e4:(k2==0)=true:=e4;exact aM ⟨L3, .inl ⟨_,_,rfl,t.done0 (na:=p+1) (nb:=k2) m5 (.inr (beq_iff_eq.mp e4))⟩⟩
         ·have e4: ¬k2=0:=fun z=>e4 (beq_iff_eq.mpr z);exact J3 _ _ m5 (by omega) (by omega) u5
       ·have e2: ¬kU+1 - k2 > 0:=e2;have z:k2=kU+1:=by omega
        subst z;exact J3 _ _ m4 (by omega) (by omega) u5
      refine ck (fun e2=> ?_) fun e2=> ?_
      ·refine ck (fun e3=> ?_) fun e3=> ?_
       ·have e3:(k==0)=true:=e3;exact aM ⟨L3, .inl ⟨_,_,rfl,t.done0 (na:=k) (nb:=kU+2) m3 (.inl (beq_iff_eq.mp e3))⟩⟩
       ·have e3: ¬k=0:=fun z=>e3 (beq_iff_eq.mpr z);exact J2 _ _ m3 (by omega) (by omega) u3
      ·have e2: ¬pY+1 - k > 0:=e2;have z:k=pY+1:=by omega
       subst z;exact J2 _ _ m' (by omega) (by omega) u3
     exact ck (fun _=>fh (J _) fun r mY z=>by cases r <;> exact z) fun _=>fh (J _) fun r mY z=>by cases r <;> exact z
    ·rintro c cq ⟨L',pY,kU,j_,mg',ac,bc,rfl,m',qU⟩;exact⟨L', .inr ⟨pY,kU,_,_,_,_,rfl,m',qU⟩⟩
    ·rintro c cq ⟨L',⟨r,rest,rfl,hr⟩ | ⟨pY,kU,j_,mg',ac,bc,rfl,m',qU⟩⟩
     ·exact aM ⟨_,_,rfl,L',hr⟩
     ·refine aI (mw fun sj L3=>aM ?_);exact⟨L'.trans L3,pY,kU,_,_,rfl,m',by omega⟩
 ·rintro c cq ⟨L',na,nb,out,mg,rfl,m,Np⟩;omega
 ·rintro c cq ⟨r,rest,rfl,L',hr⟩;exact aM (h r cq L' hr)
end
theorem BV{pre x rest:List Kd}{arr:Array Kd}(e:arr.toList=pre ++ (x ++ rest)){i:Nat}(h:i < x.length):arr[pre.length+i]? =some x[i]:=by
 rw [<-bf,e,cL (by omega),jh,cS h,ak h]
theorem DU: ∀(l:List Kd) (arr:Array Kd) (sa n:Nat),sa+n+l.length<=arr.size->
  ((l.zipIdx n).foldl (fun a (x:Kd×Nat)=>match x with | (p,j)=>a.setIfInBounds (sa+j) p) arr).toList=arr.toList.take (sa+n) ++ l ++ arr.toList.drop (sa+n+l.length)
 | [],arr,sa,n,h=>by simp
 | x::l,arr,sa,n,h=>by
  rw [aK]at h;rw [MR,wy];dsimp only;have hs:(arr.setIfInBounds (sa+n) x).size=arr.size:=Bi;rw [DU l _ sa (n+1) (by rw [hs]; omega),Array.toList_setIfInBounds];have hl:sa+n < arr.toList.length:=by rw [ao]; omega
  have e1:(arr.toList.set (sa+n) x).take (sa+(n+1))=arr.toList.take (sa+n) ++ [x]:=by
   rw [<-mR,di,List.take_set_of_le (ay _),C1 hl];rfl
  have e2:(arr.toList.set (sa+n) x).drop (sa+(n+1)+l.length)=arr.toList.drop (sa+n+(l.length+1)):=by
   rw [List.drop_set_of_lt (by omega)];congr 1;omega
  rw [e1,e2,aK];simp
section
variable {prog:aH}{w:aW}{A:bA}{E:af->aj->Prop}{s:aj}{κ:kz}{S:Kd->Prop}{lt:Kd->Kd->Bool}{st:cp}
theorem IL(o:nC S lt){x1 x2 y1 y2 m:List Kd}(sx:lR lt (x1 ++ x2))(sy:lR lt (y1 ++ y2))(sm:lR lt m)(pm:m.Perm (x2 ++ y1))(h1: ∀u∈x1, ∀v∈y1 ++ y2,lt u v=true)(h2: ∀u∈x2, ∀v∈y2,lt u v=true):lR lt (x1 ++ m ++ y2):=by
 have a:=bX.mp sx;have b:=bX.mp sy;refine bX.mpr ⟨bX.mpr ⟨a.1,sm,fun u hu v hv=> ?_⟩,b.2.1,fun u hu v hv=> ?_⟩
 ·rcases bO.mp (pm.mem_iff.mp hv)with hv | hv
  ·exact a.2.2 u hu v hv
  ·exact h1 u hu v (fU _ hv)
 ·rcases bO.mp hu with hu | hu
  ·exact h1 u hu v (a_ _ hv)
  ·rcases bO.mp (pm.mem_iff.mp hu)with hu | hu
   ·exact h2 u hu v hv
   ·exact b.2.2 u hu v hv
theorem xA{x:List Kd}(h:lR lt x){i j:Nat}(kS:i < j)(hj:j < x.length):lt (x[i]'(by omega)) x[j]=true:=bY.mp h i j (by omega) hj kS
set_option maxHeartbeats 4000000 in
theorem Ap{i pw pw2:Nat}{pre x y post:List Kd}{Q:Bool->cp->Prop}(o:nC S lt)(c:uw prog w A s κ S lt)(hk:kindOf st=κ)(hf:ik st=none)
  (hi:(cv st)[i]? =some (pre.length,x.length,pw))(RB:(cv st)[i+1]? =some (pre.length+x.length,y.length,pw2))
  (e:(br st).toList=pre ++ (x ++ (y ++ post)))(ZM:0 < x.length)(V2:0 < y.length)(sx:lR lt x)(sy:lR lt y)(Sx: ∀u∈x,S u)(Sy: ∀u∈y,S u)(ne: ∀u∈x, ∀v∈y,u≠v)
  (h: ∀(z:List Kd) (cq:cp),kindOf cq=κ->ik cq=none->cv cq=((cv st).setIfInBounds i (pre.length,x.length+y.length,pw)).eraseIdxIfInBounds (i+1)->(br cq).toList=pre ++ (z ++ post)->z.Perm (x ++ y)->lR lt z->Q true cq):
  wpS (aC prog w) A E s (mergeAt' i) Q st:=by
 refine aI (ou ?_);rw [hi,RB];refine aI (ow (f:=fun _=>_) ?_);have zc:(br st)[pre.length+x.length]? =some y[0]:=by
  have:=BV (pre:=pre ++ x) (x:=y) (rest:=post) (arr:=br st) (by rw [e]; simp) (i:=0) V2;simpa using this
 have Xq: ∀k (hk:k < x.length),(br st)[pre.length+k]? =some x[k]:=fun k hk=>BV e hk;have Z4: ∀k (hk:k < y.length),(br st)[pre.length+x.length+k]? =some y[k]:=fun k hk=>by
  have:=BV (pre:=pre ++ x) (x:=y) (rest:=post) (arr:=br st) (by rw [e]; simp) hk;rw [aq]at this;exact this
 have WW:S y[0]:=Sy _ (aX _);refine aI (c0 zc ?_);refine aI (jq (g:=fun k=>x.getD k y[0]) o c hk (fun k hk=> ?_) (fun k hk=> ?_) (fun k hk=> ?_) WW (fun k j kS hj=> ?_) ZM fun k SM g1 g2=> ?_)
 ·rw [Xq k hk]; simp [hk]
 ·simpa [hk]using Sx _ (aX hk)
 ·simpa [hk]using ne _ (aX hk) _ (aX V2)
 ·have h1:k < x.length:=by omega
  simpa [h1,hj]using xA sx kS hj
 have W4: ∀u∈x.take k,lt u y[0]=true:=fun u hu=>by
  obtain⟨j,hj,rfl⟩:=aT.mp hu;rw [bh]at hj;rw [eC];have h1:j < x.length:=by omega
  simpa [h1]using g1 j (by omega)
 have Zn: ∀u∈x.drop k,lt y[0] u=true:=fun u hu=>by
  obtain⟨j,hj,rfl⟩:=aT.mp hu;rw [bq]at hj;rw [dj];have h1:k+j < x.length:=by omega
  have z:lt x[k+j] y[0]=false:=by simpa [h1]using g2 (k+j) (by omega) h1
  exact o.tot _ _ (Sx _ (aX h1)) WW (ne _ (aX h1) _ (aX V2)) z
 have RH: ∀u,lt u y[0]=true-> ∀v∈y,lt u v=true:=fun u hu v hv=>by
  obtain⟨j,hj,rfl⟩:=aT.mp hv
  by_cases hz:j=0
  ·subst hz; exact hu
  ·exact o.tr _ _ _ hu (xA sy (by omega) hj)
 refine ck (fun e0=> ?_) fun e0=> ?_
 ·have e0:(x.length - k==0)=true:=e0;have e0:=beq_iff_eq.mp e0;refine aM (h (x ++ y) _ hk hf rfl (by rw [aO]; exact e) (dC _) (bX.mpr ⟨sx,sy,fun u hu v hv=>RH u (W4 u ?_) v hv⟩));rw [dg (by omega)];exact hu
 have e0: ¬x.length - k=0:=fun z=>e0 (beq_iff_eq.mpr z);have hl:x.length - 1 < x.length:=by omega
 have RE:(br st)[pre.length+k+(x.length - k) - 1]? =some x[x.length - 1]:=by
  rw [show pre.length+k+(x.length - k) - 1=pre.length+(x.length - 1) by omega];exact Xq _ hl
 have XF:S x[x.length - 1]:=Sx _ (aX _);refine aI (c0 RE ?_);refine aI (jq (g:=fun k=>y.getD k x[x.length - 1]) o c hk (fun k hk=> ?_) (fun k hk=> ?_) (fun k hk=> ?_) XF (fun k j kS hj=> ?_) (show y.length - 1 < y.length by omega) fun n2 Eh r1 r2=> ?_)
 ·rw [Z4 k hk]; simp [hk]
 ·simpa [hk]using Sy _ (aX hk)
 ·simpa [hk]using fun z=>ne _ (aX hl) _ (aX hk) (Eq.symm z)
 ·have h1:k < y.length:=by omega
  simpa [h1,hj]using xA sy kS hj
 have ZS: ∀u∈y.take n2,lt u x[x.length - 1]=true:=fun u hu=>by
  obtain⟨j,hj,rfl⟩:=aT.mp hu;rw [bh]at hj;rw [eC];have h1:j < y.length:=by omega
  simpa [h1]using r1 j (by omega)
 have XB: ∀u∈y.drop n2,lt x[x.length - 1] u=true:=fun u hu=>by
  obtain⟨j,hj,rfl⟩:=aT.mp hu;rw [bq]at hj;rw [dj];have h1:n2+j < y.length:=by omega
  have z:lt y[n2+j] x[x.length - 1]=false:=by simpa [h1]using r2 (n2+j) (by omega) h1
  exact o.tot _ _ (Sy _ (aX h1)) XF (fun z=>ne _ (aX hl) _ (aX h1) z.symm) z
 have QY: ∀v,lt x[x.length - 1] v=true-> ∀u∈x,lt u v=true:=fun v hv u hu=>by
  obtain⟨j,hj,rfl⟩:=aT.mp hu
  by_cases hz:j=x.length - 1
  ·subst hz; exact hv
  ·exact o.tr _ _ _ (xA sx (show j < x.length - 1 by omega) hl) hv
 refine ck (fun e1=> ?_) fun e1=> ?_
 ·have e1:(n2==0)=true:=e1;have e1:=beq_iff_eq.mp e1;subst e1;exact aM (h (x ++ y) _ hk hf rfl (by rw [aO]; exact e) (dC _) (bX.mpr ⟨sx,sy,fun u hu v hv=>QY v (XB v hv) u hu⟩))
 have e1: ¬n2=0:=fun z=>e1 (beq_iff_eq.mpr z);have ex:((br st).extract (pre.length+k) (pre.length+x.length)).toList=x.drop k:=by
  rw [xR,e];have:(pre ++ (x ++ (y ++ post))).take (pre.length+x.length)=pre ++ x:=by
   rw [<-aO,kA (by rw [aq]; omega),dg (by rw [aq]; omega)]
  rw [this,vD,fu (by omega)];simp
 have ey:((br st).extract (pre.length+x.length) (pre.length+x.length+n2)).toList=y.take n2:=by
  rw [ye,e];have:(pre ++ (x ++ (y ++ post))).drop (pre.length+x.length)=y ++ post:=by
   rw [<-aO,vD,fu (by rw [aq]; omega),aq,gL];rfl
  rw [this,kA Eh]
 generalize hX:(br st).extract (pre.length+k) (pre.length+x.length)=X at ex;generalize hY:(br st).extract (pre.length+x.length) (pre.length+x.length+n2)=Y at ey;have szX:X.size=x.length - k:=by rw [<-ao,ex,bq]
 have szY:Y.size=n2:=by rw [<-ao,ey,bh]; omega
 have t:o7 S lt X Y:=by
  refine⟨by rw [ex]; exact dz (jD _ _) sx,by rw [ey]; exact dz (jx _ _) sy,fun u hu=> ?_,fun u hu=> ?_,fun u hu v hv=> ?_,by omega,by omega,fun u hu=> ?_,fun u hu=> ?_⟩
  ·rw [ex]at hu; exact Sx u (fX hu)
  ·rw [ey]at hu; exact Sy u (f6 hu)
  ·rw [ex]at hu;rw [ey]at hv;exact ne u (fX hu) v (f6 hv)
  ·rw [ex]at hu;have:Y[0]'(by omega)=y[0]:=by
    have q:Y.toList[0]'(by rw [ao]; omega)=(y.take n2)[0]'(by rw [bh]; omega):=by simp only [ey]
    rw [eC]at q;simpa using q
   rw [this];exact Zn u hu
  ·rw [ey]at hu;have:X[X.size - 1]'(by omega)=x[x.length - 1]:=by
    have q:X.toList[X.size - 1]'(by rw [ao]; omega)=(x.drop k)[X.size - 1]'(by rw [bq]; omega):=by simp only [ex]
    rw [dj]at q;have e3:k+(X.size - 1)=x.length - 1:=by omega
    simp only [e3]at q;simpa using q
   rw [this];exact ZS u hu
 have fin: ∀(res:Array Kd) (mY:cp),gN (setPending st (((cv st).setIfInBounds i (pre.length,x.length+y.length,pw)).eraseIdxIfInBounds (i+1))) mY->Res lt X Y res->
   wpS (aC prog w) A E s (do
    modify fun s=>setArr s (res.toList.zipIdx.foldl (fun a (x:Kd×Nat)=>match x with | (p,j)=>a.setIfInBounds (pre.length+k+j) p) (br s))
    let s<-get
    pure (ik s).isNone) Q mY:=fun res mY L2 hr=>by
  refine aI (ow ?_);refine aI (ou ?_);have f2:ik mY=none:=L2.2.2.2.trans hf;have a2:br mY=br st:=L2.2.1;have mj:res.toList.Perm (x.drop k ++ y.take n2):=by have:=hr.1; rw [ex,ey]at this; exact this
  have lr:res.toList.length=(x.length - k)+n2:=by rw [mj.length_eq,aq,bq,bh]; omega
  have tot:pre.length+(x.length+(y.length+post.length))=(br st).size:=by rw [<-ao,e]; simp [aq]
  have put:=DU res.toList (br st) (pre.length+k) 0 (by omega);show wpS (aC prog w) A E s (pure (ik mY).isNone) Q _;rw [f2];refine aM (h (x.take k ++ res.toList ++ y.drop n2) _ (L2.1.trans hk) f2 L2.2.2.1 ?_ ?_ ?_)
  ·show(res.toList.zipIdx.foldl _ (br mY)).toList=_;rw [a2];refine put.trans ?_;rw [e,lr];have p1:(pre ++ (x ++ (y ++ post))).take (pre.length+k+0)=pre ++ x.take k:=by
    rw [Nat.add_zero,List.take_append,dg (by omega),jh,kA SM]
   have p2:(pre ++ (x ++ (y ++ post))).drop (pre.length+k+0+(x.length - k+n2))=y.drop n2 ++ post:=by
    rw [show pre.length+k+0+(x.length - k+n2)=pre.length+(x.length+n2) by omega, <-List.drop_drop,vD,fu (ay _),gL,List.nil_append,qc, <-List.drop_drop,vD,fu (ay _),gL,List.nil_append,qc,vM Eh]
   rw [p1,p2];simp
  ·have:(x ++ y).Perm ((x.take k ++ x.drop k) ++ (y.take n2 ++ y.drop n2)):=by rw [ba,ba]
   refine kQ ?_ this.symm;rw [aO,aO];refine eL _ ?_;rw [<-aO];exact mj.append_right _
  ·refine IL o (by rw [ba]; exact sx) (by rw [ba]; exact sy) hr.2 mj (fun u hu v hv=> ?_) fun u hu v hv=>QY v (XB v hv) u (fX hu);rw [ba]at hv;exact RH u (W4 u hu) v hv
 refine ck (fun _=> ?_) fun _=> ?_
 ·exact aI (AG o c hk t fun res mY L2 hr=>fin res mY L2 hr)
 ·exact aI (zH o c hk t fun res mY L2 hr=>fin res mY L2 hr)
end
def At(arr:Array Kd)(i:Nat):Kd:=arr.getD i (bD,bD)
theorem oR{arr:Array Kd}{i:Nat}(h:i < arr.size):arr[i]? =some (At arr i):=by unfold At; simp [h]
theorem mW{xs ys:Array Kd}{i j:Nat}(h:xs[i]? =ys[j]?):At xs i=At ys j:=by
 unfold At;rw [Array.getD_eq_getD_getElem?,Array.getD_eq_getD_getElem?,h]
def Up(lt:Kd->Kd->Bool)(arr:Array Kd)(lo n:Nat):Prop:= ∀i j,i < j->j < n->lt (At arr (lo+i)) (At arr (lo+j))=true
structure SB(κ:kz)(a0:List Kd)(p:Array (Nat×Nat×Nat))(pre:List Kd)(st:cp):Prop where
 kind:kindOf st=κ
 failed:ik st=none
 perm:(br st).toList.Perm a0
 pend:cv st=p
 pre:(br st).toList.take pre.length=pre
section
variable {prog:aH}{w:aW}{A:bA}{E:af->aj->Prop}{s:aj}{κ:kz}{S:Kd->Prop}{lt:Kd->Kd->Bool}{st:cp}{a0 pre:List Kd}{p:Array (Nat×Nat×Nat)}
theorem SB.size(b:SB κ a0 p pre st):(br st).size=a0.length:=by rw [<-ao,b.perm.length_eq]
theorem SB.ss(b:SB κ a0 p pre st)(hS: ∀x∈a0,S x){i:Nat}(h:i < a0.length):S (At (br st) i):=by
 have hi:i < (br st).size:=by rw [b.size]; exact h
 have:=oR hi;refine hS _ (b.perm.mem_iff.mp ?_);rw [<-bf]at this;exact aR this
theorem SB.ne(b:SB κ a0 p pre st)(nd:a0.Nodup){i j:Nat}(h:i < a0.length)(h':j < a0.length)(kS:i≠j):At (br st) i≠At (br st) j:=fun z=>by
 have Rf:(br st).toList.Nodup:=b.perm.symm.nodup nd;have e1:(br st).toList[i]? =some (At (br st) i):=by rw [bf]; exact oR (by rw [b.size]; exact h)
 have e2:(br st).toList[j]? =some (At (br st) j):=by rw [bf]; exact oR (by rw [b.size]; exact h')
 obtain⟨h1,e1⟩:=aB.mp e1;obtain⟨h2,e2⟩:=aB.mp e2;exact kS ((m_ Rf).mp (by rw [e1,e2,z]))
theorem oG{i j:Nat}{Q:Option Bool->cp->Prop}(c:uw prog w A s κ S lt)(b:SB κ a0 p pre st)(hS: ∀x∈a0,S x)(hi:i < a0.length)(hj:j < a0.length)(h:Q (some (lt (At (br st) i) (At (br st) j))) st):wpS (aC prog w) A E s (ltAt' i j) Q st:=by
 rw [ltAt'_eq];refine aI (ou ?_);refine aI (c0 (oR (by rw [b.size]; exact hi)) ?_);refine aI (c0 (oR (by rw [b.size]; exact hj)) ?_);exact uT c b.kind (b.ss hS hi) (b.ss hS hj) h
theorem SB.setArr(b:SB κ a0 p pre st){xs:Array Kd}(hp:xs.Perm (br st))(hk: ∀i,i < pre.length->xs[i]? =(br st)[i]?):SB κ a0 p pre (setArr st xs):=by
 refine⟨b.kind,b.failed,hp.toList.trans b.perm,b.pend, ?_⟩;show xs.toList.take pre.length=pre;have:=b.pre;rw [<-this];apply e7;intro i;rw [rH,rH,this]
 split
 ·rename_i h; rw [bf,bf,hk i h]
 ·rfl
theorem AQ{lo ph n:Nat}{f:Nat->Option (Option Nat)×Nat->StateT cp Sem (ForInStep (Option (Option Nat)×Nat))}{Q:Option (Option Nat)×Nat->cp->Prop}(o:nC S lt)(nd:a0.Nodup)(hS: ∀x∈a0,S x)(b:SB κ a0 p pre st)(hn:lo+ph<=a0.length)(h1:1<=n)(h2:n<=ph)
  (hf: ∀x m (Q':ForInStep (Option (Option Nat)×Nat)->cp->Prop),m < ph->1<=m->(lt (At (br st) (lo+m)) (At (br st) (lo+m - 1))=true->Q' (.done (none,m)) st)->(lt (At (br st) (lo+m)) (At (br st) (lo+m - 1))=false->Q' (.yield (none,m+1)) st)->wpS (aC prog w) A E s (f x (none,m)) Q' st)
  (u:Up lt (br st) lo n)(h: ∀m,n<=m->m<=ph->Up lt (br st) lo m->(m=ph\/lt (At (br st) (lo+m)) (At (br st) (lo+m - 1))=true)->Q (none,m) st):wpS (aC prog w) A E s (forIn [n:ph] (none,n) f) Q st:=by
 refine dM (I:=fun x c cq=>cq=st/\c=(none,x)/\n<=x/\x<=ph/\Up lt (br st) lo x) ?_ ?_ ⟨rfl,rfl,ay _,h2,u⟩
 ·rintro x c cq hx1 SS ⟨rfl,rfl,h3,h4,u⟩;refine hf x x _ SS (by omega) (fun e=>h x h3 h4 u (.inr e)) fun e=>⟨rfl,rfl,by omega,by omega,fun i j kS hj=> ?_⟩
  by_cases z:j < x
  ·exact u i j kS z
  ·have ej:j=x:=by omega
   subst ej;have l:lt (At (br cq) (lo+j - 1)) (At (br cq) (lo+j))=true:=o.tot _ _ (b.ss hS (by omega)) (b.ss hS (by omega)) (b.ne nd (by omega) (by omega) (by omega)) e
   by_cases z2:i=j - 1
   ·subst z2;rw [show lo+(j - 1)=lo+j - 1 by omega];exact l
   ·refine o.tr _ _ _ (u i (j - 1) (by omega) (by omega)) ?_;rw [show lo+(j - 1)=lo+j - 1 by omega];exact l
 ·rintro c cq ⟨rfl,rfl,h3,h4,u⟩;rw [Nat.max_eq_right (by omega)]at h3 h4 u ⊢;exact h ph h2 (ay _) u (.inl rfl)
def Down(lt:Kd->Kd->Bool)(arr:Array Kd)(lo n:Nat):Prop:= ∀i j,i < j->j < n->lt (At arr (lo+j)) (At arr (lo+i))=true
theorem Mi{i j:Nat}{Q:Unit->cp->Prop}(h:Q () (setArr st (mirror (br st) i j ((j - i) / 2)))):wpS (aC prog w) A E s (reverseSlice' i j) Q st:=ow h
theorem IJ{i j:Nat}{Q:Unit->cp->Prop}(h:Q () (setArr st (bubble (br st) i (i - j)))):wpS (aC prog w) A E s (moveDown' i j) Q st:=ow h
set_option maxHeartbeats 4000000 in
theorem Fc{ph:Nat}{Q:Option Nat->cp->Prop}(o:nC S lt)(c:uw prog w A s κ S lt)(nd:a0.Nodup)(hS: ∀x∈a0,S x)(b:SB κ a0 p pre st)(hn:pre.length+ph<=a0.length)(h1:1<=ph)
  (h: ∀m cq,SB κ a0 p pre cq->1<=m->m<=ph->Up lt (br cq) pre.length m->Q (some m) cq):wpS (aC prog w) A E s (countRun' pre.length ph) Q st:=by
 refine aI (AQ (lo:=pre.length) o nd hS b hn (ay 1) h1 (fun x m Q' hm Eg k1 k2=> ?_) (fun i j kS hj=>by omega) fun m Eg qM um Xz=> ?_)
 ·refine aI (oG c b hS (by omega) (by omega) ?_);cases e:lt (At (br st) (pre.length+m)) (At (br st) (pre.length+m - 1))with
  | true=>exact aM (k1 e)
  | false=>exact aM (k2 e)
 refine ck (fun e=>aM (h m st b Eg qM um)) fun e=> ?_;have e: ¬m=ph:=fun z=>e (beq_iff_eq.mpr z);have fj:=Xz.resolve_left e
 extract_lets n2 neq0 jp
 have q2:m+1=n2:=rfl;have q0:0=neq0:=rfl
 clear_value n2 neq0
 subst q2 q0;refine ck (fun e1=> ?_) fun e1=> ?_
 ·have e1:m > 1:=e1;refine aI (oG c b hS (by omega) (show pre.length+m - 1 < a0.length by omega) ?_);have z:=um 0 (m - 1) (by omega) (by omega);rw [show pre.length+(m - 1)=pre.length+m - 1 by omega,Nat.add_zero]at z;rw [z];exact aM (h m st b Eg qM um)
 have e1: ¬m > 1:=e1;have em:m=1:=by omega
 subst em;refine aI (sG (fE ⟨rfl, ?_⟩));refine aI (fh (dM (I:=fun x c cq=>cq=st/\c=(none,x,0)/\2<=x/\x<=ph/\Down lt (br st) pre.length x) (Q:=fun c cq=>cq=st/\ ∃m,c=(none,m,0)/\2<=m/\m<=ph/\Down lt (br st) pre.length m) ?_ ?_ ⟨rfl,rfl,ay _,by omega,fun i j kS hj=> ?_⟩) ?_)
 ·rintro x c' cq hx1 SS ⟨rfl,rfl,h3,h4,d⟩;refine aI (oG c b hS (show pre.length+x < a0.length by omega) (show pre.length+x - 1 < a0.length by omega) ?_);cases eq:lt (At (br cq) (pre.length+x)) (At (br cq) (pre.length+x - 1))with
  | true=>
   refine ck (fun _=> ?_) fun z=>absurd rfl z;refine ck (fun z=>absurd (show(0:Nat) > 0 from z) (by omega)) fun _=>aM ⟨rfl,rfl,by omega,by omega,fun i j kS hj=> ?_⟩
   by_cases z:j < x
   ·exact d i j kS z
   ·have ej:j=x:=by omega
    subst ej
    by_cases z2:i=j - 1
    ·subst z2;rw [show pre.length+(j - 1)=pre.length+j - 1 by omega];exact eq
    ·refine o.tr _ _ _ eq ?_;have:=d i (j - 1) (by omega) (by omega);rw [show pre.length+(j - 1)=pre.length+j - 1 by omega]at this;exact this
  | false=>
   refine ck (fun z=>by cases z) fun _=> ?_;refine aI (oG c b hS (show pre.length+x - 1 < a0.length by omega) (show pre.length+x < a0.length by omega) ?_);rw [o.tot _ _ (b.ss hS (by omega)) (b.ss hS (by omega)) (b.ne nd (by omega) (by omega) (by omega)) eq];exact aM ⟨rfl,x,rfl,h3,h4,d⟩
 ·rintro c' cq ⟨rfl,rfl,h3,h4,d⟩;exact⟨rfl,_,rfl,h3,h4,d⟩
 ·have ei:i=0:=by omega
  have ej:j=1:=by omega
  subst ei ej;exact fj
 ·rintro c' cq ⟨rfl,m,rfl,h3,h4,d⟩;refine ck (fun z=>absurd (show(0:Nat) > 0 from z) (by omega)) fun _=> ?_;refine aI (Mi ?_);have hsz:=b.size;have gm:=fun k=>getElem?_mirror_all (xs:=br cq) (i:=pre.length) (j:=pre.length+m) (by omega) k;have b2:SB κ a0 p pre (setArr cq (mirror (br cq) pre.length (pre.length+m) ((pre.length+m - pre.length) / 2))):=b.setArr (mirror_perm _ _ _ _) fun k hk=>by rw [gm k,if_neg (by omega)]
  have u2:Up lt (mirror (br cq) pre.length (pre.length+m) ((pre.length+m - pre.length) / 2)) pre.length m:=fun i j kS hj=>by
   have e1:=gm (pre.length+i);have e2:=gm (pre.length+j);rw [if_pos (by omega),show pre.length+(pre.length+m) - 1 - (pre.length+i)=pre.length+(m - 1 - i) by omega]at e1;rw [if_pos (by omega),show pre.length+(pre.length+m) - 1 - (pre.length+j)=pre.length+(m - 1 - j) by omega]at e2;rw [mW e1,mW e2];exact d _ _ (by omega) (by omega)
  refine aI (AQ (lo:=pre.length) o nd hS b2 hn (show 1<=m by omega) h4 (fun x m Q' hm Eg k1 k2=> ?_) u2 fun m2 Eg qM um Xz=> ?_)
  ·refine aI (oG c b2 hS (by omega) (by omega) ?_);cases e:lt (At (br (setArr cq (mirror (br cq) pre.length (pre.length+_) ((pre.length+_ - pre.length) / 2)))) (pre.length+m)) (At (br (setArr cq (mirror (br cq) pre.length (pre.length+_) ((pre.length+_ - pre.length) / 2)))) (pre.length+m - 1))with
   | true=>exact aM (k1 e)
   | false=>exact aM (k2 e)
  ·exact aM (h m2 _ b2 (bg (show 1<=m by omega) Eg) qM um)
set_option maxHeartbeats 4000000 in
theorem B6{n ok:Nat}{Q:Bool->cp->Prop}(o:nC S lt)(c:uw prog w A s κ S lt)(nd:a0.Nodup)(hS: ∀x∈a0,S x)(b:SB κ a0 p pre st)(hn:pre.length+n<=a0.length)(h1:1<=ok)(h2:ok<=n)(u:Up lt (br st) pre.length ok)
  (h: ∀cq,SB κ a0 p pre cq->Up lt (br cq) pre.length n->Q true cq):wpS (aC prog w) A E s (binarySort' pre.length n ok) Q st:=by
 refine aI (fh (dM (I:=fun k c cq=>c=(none,())/\SB κ a0 p pre cq/\ok<=k/\k<=n/\Up lt (br cq) pre.length k) (Q:=fun c cq=>c=(none,())/\SB κ a0 p pre cq/\Up lt (br cq) pre.length n) ?_ ?_ ⟨rfl,b,by omega,by omega,by rw [Nat.max_eq_left h1]; exact u⟩) ?_)
 ·rintro k c' og U0 pZ ⟨rfl,b1,k3,k4,u1⟩;have key: ∀i,i < k->lt (At (br og) (pre.length+i)) (At (br og) (pre.length+k))= !lt (At (br og) (pre.length+k)) (At (br og) (pre.length+i)):=fun i hi=>by
   cases e:lt (At (br og) (pre.length+i)) (At (br og) (pre.length+k))with
   | true=>rw [o.IX _ _ e]; rfl
   | false=>rw [o.tot _ _ (b1.ss hS (by omega)) (b1.ss hS (by omega)) (b1.ne nd (by omega) (by omega) (by omega)) e]; rfl
  refine aI (ub (n:=k) (p:=fun i=> !lt (At (br og) (pre.length+k)) (At (br og) (pre.length+i))) (fun x l r Q' hr j1 j2 j3=> ?_) (fun i j kS hj e=> ?_) (bK _) (ay _) (fun i hi=>absurd hi (by omega)) (fun i hi KH=>absurd hi (by omega)) fun q hq a1 a2=> ?_)
  ·refine ck (fun z=>aM (j1 z)) fun z=> ?_;have z:l < r:=by have z: ¬l>=r:=z; omega
   have em:(l+r) / 2=l+(r - l) / 2:=by omega
   have fj:l+(r - l) / 2 < r:=by omega
   refine aI (oG c b1 hS (show pre.length+k < a0.length by omega) (show pre.length+(l+r) / 2 < a0.length by omega) ?_);cases e:lt (At (br og) (pre.length+k)) (At (br og) (pre.length+(l+r) / 2))with
   | true=>
    have:=j3 z (by rw [<-em,e]; rfl);rw [<-em]at this;exact aM this
   | false=>
    have:=j2 z (by rw [<-em,e]; rfl);rw [<-em]at this;exact aM this
  ·rcases Nat.lt_or_eq_of_le kS with z | rfl
   ·rw [<-key i (by omega)];rw [<-key j hj]at e;exact o.tr _ _ _ (u1 i j z hj) e
   ·exact e
  ·refine aI (IJ (aM ?_));have hsz:=b1.size;have ed:pre.length+k - (pre.length+q)=k - q:=by omega
   have gb:=fun j=>getElem?_bubble (xs:=br og) (src:=pre.length+k) (by omega) (k - q) (by omega) j;have es:pre.length+k - (k - q)=pre.length+q:=by omega
   rw [es]at gb;show _=_/\SB κ a0 p pre (setArr og (bubble (br og) (pre.length+k) (pre.length+k - (pre.length+q))))/\_/\_/\Up lt (bubble (br og) (pre.length+k) (pre.length+k - (pre.length+q))) pre.length (k+1);rw [ed];refine⟨rfl,b1.setArr (bubble_perm _ _ _) fun j hj=>by rw [gb j,if_neg (by omega),if_neg (by omega)],by omega,by omega,fun i j kS hj=> ?_⟩;have e1:=gb (pre.length+i);have e2:=gb (pre.length+j);have Zv: ∀i,i < q->lt (At (br og) (pre.length+i)) (At (br og) (pre.length+k))=true:=fun i hi=>by rw [key i (by omega)]; exact a1 i hi
   have Z0: ∀i,q<=i->i < k->lt (At (br og) (pre.length+k)) (At (br og) (pre.length+i))=true:=fun i h1 h2=>by simpa using a2 i h1 h2
   rcases KY j q with z | z | z
   ·rw [if_neg (by omega),if_neg (by omega)]at e1 e2;rw [mW e1,mW e2];exact u1 i j kS (by omega)
   ·rw [if_neg (by omega),if_neg (by omega)]at e1;rw [if_pos (by omega)]at e2;rw [mW e1,mW e2];exact Zv i (by omega)
   ·rw [if_neg (by omega),if_pos (by omega),show pre.length+j - 1=pre.length+(j - 1) by omega]at e2
    rcases KY i q with y | y | y
    ·rw [if_neg (by omega),if_neg (by omega)]at e1;rw [mW e1,mW e2];exact u1 i (j - 1) (by omega) (by omega)
    ·rw [if_pos (by omega)]at e1;rw [mW e1,mW e2];exact Z0 _ (by omega) (by omega)
    ·rw [if_neg (by omega),if_pos (by omega),show pre.length+i - 1=pre.length+(i - 1) by omega]at e1;rw [mW e1,mW e2];exact u1 (i - 1) (j - 1) (by omega) (by omega)
 ·rintro c' og ⟨rfl,b1,k3,k4,u1⟩;have e:max (max ok 1) n=n:=by omega
  rw [e]at u1;exact⟨rfl,b1,u1⟩
 ·rintro c' og ⟨rfl,b1,u1⟩;exact aM (h og b1 u1)
end
abbrev Run:=List Kd×Nat
def flat(rs:List Run):List Kd:=(rs.map (·.1)).flatten
def iL:Nat->List Run->List (Nat×Nat×Nat)
 | _, []=> []
 | n,(x,pw)::r=>(n,x.length,pw)::iL (n+x.length) r
theorem Lp{α:Type}(l m:List α)(a c:α):(l ++ a::m).set l.length c=l ++ c::m:=by simp
theorem Fe{α:Type}(l m:List α)(a b:α):(l ++ a::b::m).eraseIdx (l.length+1)=l ++ a::m:=by
 rw [List.eraseIdx_append_of_length_le (by omega),jh];rfl
theorem Aq{α:Type}(l:List α)(a:α)(f:α->α):(l ++ [a]).modify ((l ++ [a]).length - 1) f=l ++ [f a]:=by
 rw [aq,cj,Nat.add_sub_cancel]
 induction l with
 | nil=>rfl
 | cons b l ih=>exact congrArg (b:: ·) ih
theorem jM(a b:List Run):flat (a ++ b)=flat a ++ flat b:=by unfold flat; rw [bw,Gm]
theorem fe(x:List Kd)(pw:Nat)(b:List Run):flat ((x,pw)::b)=x ++ flat b:=by unfold flat; rw [a9,cO]
theorem kB: ∀(a b:List Run) (n:Nat),iL n (a ++ b)=iL n a ++ iL (n+(flat a).length) b
 | [],b,n=>by simp [iL,flat]
 | (x,pw)::a,b,n=>by
  rw [nq,iL,iL,kB a b,nq,fe,aq,mR]
theorem oC: ∀(a:List Run) (n:Nat),(iL n a).length=a.length
 | [],n=>rfl
 | (x,pw)::a,n=>by rw [iL,aK,aK,oC a]
structure RI(κ:kz)(lt:Kd->Kd->Bool)(a0:List Kd)(rs:List Run)(rest:List Kd)(st:cp):Prop where
 kind:kindOf st=κ
 failed:ik st=none
 perm:(br st).toList.Perm a0
 arr:(br st).toList=flat rs ++ rest
 pend:cv st=(iL 0 rs).toArray
 good: ∀r∈rs,0 < r.1.length/\lR lt r.1
section
variable {prog:aH}{w:aW}{A:bA}{E:af->aj->Prop}{s:aj}{κ:kz}{S:Kd->Prop}{lt:Kd->Kd->Bool}{st:cp}{a0 rest:List Kd}{rs:List Run}
theorem RI.iT(b:RI κ lt a0 rs rest st):rs.length<=(flat rs).length:=by
 have g:=b.good;clear b
 induction rs with
 | nil=>exact bK _
 | cons r rs ih=>
  obtain⟨x,pw⟩:=r;have:=ih fun r hr=>g r (.tail _ hr);have:=(g (x,pw) (.head _)).1;rw [fe,aq,aK];dsimp only at this;omega
theorem RI.merge(o:nC S lt)(c:uw prog w A s κ S lt)(nd:a0.Nodup)(hS: ∀x∈a0,S x)(b:RI κ lt a0 rs rest st){i:Nat}(hi:i+1 < rs.length){Q:Bool->cp->Prop}
  (h: ∀(JU:List Run) (cq:cp),RI κ lt a0 JU rest cq->JU.length+1=rs.length->(flat JU).length=(flat rs).length->Q true cq):wpS (aC prog w) A E s (mergeAt' i) Q st:=by
 obtain⟨r1,x,pw,y,pw2,r2,rfl,hl⟩: ∃r1 x pw y pw2 r2,rs=r1 ++ (x,pw)::(y,pw2)::r2/\r1.length=i:=by
  have h0:i < rs.length:=by omega
  refine⟨rs.take i,rs[i].1,rs[i].2,rs[i+1].1,rs[i+1].2,rs.drop (i+2), ?_,by rw [bh]; omega⟩;show rs=rs.take i ++ rs[i]::rs[i+1]::rs.drop (i+2);rw [<-iH hi, <-iH h0,ba]
 subst hl;have gx:=b.good (x,pw) (by simp);have gy:=b.good (y,pw2) (by simp);have e:(br st).toList=flat r1 ++ (x ++ (y ++ (flat r2 ++ rest))):=by rw [b.arr,jM,fe,fe]; simp
 have Rf:(flat r1 ++ (x ++ (y ++ (flat r2 ++ rest)))).Nodup:=by rw [<-e]; exact b.perm.symm.nodup nd
 have mem: ∀u,u∈(br st).toList->S u:=fun u hu=>hS u (b.perm.mem_iff.mp hu);have pe:cv st=(iL 0 r1 ++ ((flat r1).length,x.length,pw)::((flat r1).length+x.length,y.length,pw2)::iL ((flat r1).length+x.length+y.length) r2).toArray:=by
  rw [b.pend,kB,iL,iL,oq]
 have lp:=oC r1 0;refine Ap (pre:=flat r1) (x:=x) (y:=y) (post:=flat r2 ++ rest) o c b.kind b.failed (pw:=pw) (pw2:=pw2) ?_ ?_ e gx.1 gy.1 gx.2 gy.2 (fun u hu=>mem u (by rw [e]; simp [hu])) (fun u hu=>mem u (by rw [e]; simp [hu])) (fun u hu v hv z=> ?_) fun z cq k1 k2 k3 k4 k5 k6=> ?_
 ·rw [pe,pv,cL (by omega),lp,gL];rfl
 ·rw [pe,pv,cL (by omega),lp,jh];rfl
 ·subst z;have:=(jA.mp (jA.mp Rf).2.1).2.2 u hu u (by simp [hv]);exact this rfl
 ·have lz:z.length=x.length+y.length:=by rw [k5.length_eq,aq]
  refine h (r1 ++ (z,pw)::r2) cq ⟨k1,k2, ?_, ?_, ?_, ?_⟩ ?_ ?_
  ·rw [k4];refine kQ ?_ b.perm;rw [e];refine eL _ ?_;rw [<-aO x y];exact k5.append_right _
  ·rw [k4,jM,fe];simp
  ·rw [k3,pe,kB,iL,oq,lz, <-lp];apply nt.mp;rw [Array.toList_eraseIdxIfInBounds,Array.toList_setIfInBounds];rw [Lp,Fe,mR]
  ·intro r hr
   rcases bO.mp hr with hr | hr
   ·exact b.good r (by simp [hr])
   ·rcases aV.mp hr with rfl | hr
    ·have gx1:0 < x.length:=gx.1;exact⟨show 0 < z.length by omega,k6⟩
    ·exact b.good r (by simp [hr])
  ·simp;omega
  ·rw [jM,fe,jM,fe,fe];simp [lz,mR]
theorem RI.sb(b:RI κ lt a0 rs rest st):SB κ a0 (cv st) (flat rs) st:=⟨b.kind,b.failed,b.perm,rfl,by rw [b.arr,kA (ay _),dg (ay _)]⟩
theorem RI.next(b:RI κ lt a0 rs rest st){cq:cp}{n:Nat}(b':SB κ a0 (cv st) (flat rs) cq)(hn:(flat rs).length+n<=a0.length)(u:Up lt (br cq) (flat rs).length n): ∃x qN,RI κ lt a0 rs (x ++ qN) cq/\x.length=n/\lR lt x:=by
 have hsz:=b'.size;refine⟨((br cq).toList.drop (flat rs).length).take n,((br cq).toList.drop (flat rs).length).drop n,⟨b'.kind,b'.failed,b'.perm, ?_,b'.pend.trans b.pend,b.good⟩, ?_, ?_⟩
 ·rw [ba]
  conv=>rhs; lhs; rw [<-b'.pre]
  rw [ba]
 ·rw [bh,bq,ao]; omega
 ·rw [lR,bY];intro i j hi hj kS;rw [bh,bq,ao]at hi hj;rw [eC,eC,dj,dj];have g: ∀k (hk:(flat rs).length+k < (br cq).toList.length),(br cq).toList[(flat rs).length+k]=At (br cq) ((flat rs).length+k):=fun k hk=>by
   have e:=oR (arr:=br cq) (i:=(flat rs).length+k) (by rw [ao]at hk; exact hk);rw [<-bf,ak hk]at e;exact aF e
  rw [g,g];exact u i j kS (by omega)
theorem RI.push{x qN:List Kd}(b:RI κ lt a0 rs (x ++ qN) st)(hx:0 < x.length)(sx:lR lt x){lo:Nat}(hl:lo=(flat rs).length):RI κ lt a0 (rs ++ [(x,0)]) qN (setPending st ((cv st).push (lo,x.length,0))):=by
 refine⟨b.kind,b.failed,b.perm, ?_, ?_,fun r hr=> ?_⟩
 ·show(br st).toList=_;rw [b.arr,jM,fe];simp [flat]
 ·show(cv st).push _=_;rw [b.pend,kB,iL,iL,hl];simp
 ·rcases bO.mp hr with hr | hr
  ·exact b.good r hr
  ·rcases aJ.mp hr with rfl
   exact⟨hx,sx⟩
theorem RI.power(b:RI κ lt a0 rs rest st)(pw:Nat): ∃JU,RI κ lt a0 JU rest (setPending st ((cv st).modify ((cv st).size - 1) fun(x:Nat×Nat×Nat)=>match x with | (s,l,_)=>(s,l,pw)))/\(flat JU).length=(flat rs).length:=by
 rcases List.eq_nil_or_concat rs with rfl | ⟨r,q,rfl⟩
 ·refine⟨[],⟨b.kind,b.failed,b.perm,b.arr, ?_,b.good⟩,rfl⟩;generalize hY:(cv st).modify ((cv st).size - 1) _=Y;show Y=_;rw [<-hY,b.pend];rfl
 ·obtain⟨x,p⟩:=q;rw [List.concat_eq_append]at b ⊢;refine⟨r ++ [(x,pw)],⟨b.kind,b.failed,b.perm, ?_, ?_,fun u hu=> ?_⟩,by simp [jM,fe]⟩
  ·show(br st).toList=_;rw [b.arr];simp [jM,fe]
  ·generalize hY:(cv st).modify ((cv st).size - 1) _=Y;show Y=_;rw [<-hY,b.pend,kB,kB,iL,iL,iL];apply nt.mp;rw [Array.toList_modify,aD,Aq];rfl
  ·rcases bO.mp hu with hu | hu
   ·exact b.good u (by simp [hu])
   ·rcases aJ.mp hu with rfl
    exact b.good (x,p) (by simp)
set_option maxHeartbeats 4000000 in
theorem HD{Q:Unit->cp->Prop}(o:nC S lt)(c:uw prog w A s κ S lt)(nd:a0.Nodup)(hS: ∀x∈a0,S x)(hk:kindOf st=κ)(hf:ik st=none)(hp:cv st= #[])(ha:(br st).toList=a0)
  (h: ∀cq,ik cq=none->(br cq).toList.Perm a0->lR lt (br cq).toList->Q () cq):wpS (aC prog w) A E s sortRuns' Q st:=by
 have hsz:(br st).size=a0.length:=by rw [<-ao,ha]
 rw [sortRuns'_eq];refine aI (ou ?_);rw [hsz];refine aI (fh (dM (I:=fun x c cq=> ∃rs rest,c=(none,(flat rs).length)/\RI κ lt a0 rs rest cq/\x<=(flat rs).length)
  (Q:=fun c cq=> ∃rs rest,c=(none,(flat rs).length)/\RI κ lt a0 rs rest cq/\a0.length<=(flat rs).length) ?_ ?_ ⟨[],a0,rfl,⟨hk,hf,by rw [ha],by rw [ha]; rfl,hp,fun r hr=>by cases hr⟩,bK _⟩) ?_)
 ·rintro x c' og _ hx ⟨rs,rest,rfl,b,VW⟩;refine ck (fun e=>aM ⟨rs,rest,rfl,b,e⟩) fun e=> ?_;have e:(flat rs).length < a0.length:=by have e: ¬(flat rs).length>=a0.length:=e; omega
  refine aI (Fc (pre:=flat rs) o c nd hS b.sb (by omega) (by omega) fun m mY b2 m1 m2 u2=> ?_);dsimp -zeta only
  extract_lets n1 jp force n2
  have J: ∀(n:Nat) (sj:cp),SB κ a0 (cv og) (flat rs) sj->1<=n->(flat rs).length+n<=a0.length->Up lt (br sj) (flat rs).length n->wpS (aC prog w) A E s (jp () n) (fun r cq=>match r with
    | .done c'=> ∃rs rest,c'=(none,(flat rs).length)/\RI κ lt a0 rs rest cq/\a0.length<=(flat rs).length
    | .yield c'=> ∃rs rest,c'=(none,(flat rs).length)/\RI κ lt a0 rs rest cq/\x+1<=(flat rs).length) sj:=fun n sj b3 n1 n2 u3=>by
   obtain⟨y,qN,b4,ly,sy⟩:=b.next b3 n2 u3;refine aI (ou ?_)
   extract_lets lo2 jp2
   have J2: ∀(MF:cp) (A3:List Run),RI κ lt a0 A3 (y ++ qN) MF->(flat A3).length=(flat rs).length->wpS (aC prog w) A E s (jp2 ()) (fun r cq=>match r with
    | .done c'=> ∃rs rest,c'=(none,(flat rs).length)/\RI κ lt a0 rs rest cq/\a0.length<=(flat rs).length
    | .yield c'=> ∃rs rest,c'=(none,(flat rs).length)/\RI κ lt a0 rs rest cq/\x+1<=(flat rs).length) MF:=fun MF A3 b5 l5=>by
    refine aI (ow (aM ?_));have lf:(flat (A3 ++ [(y,0)])).length=(flat rs).length+n:=by rw [jM,fe,aq,aq,l5,ly]; rfl
    refine⟨A3 ++ [(y,0)],qN,by rw [lf], ?_,by omega⟩;have:=b5.push (by omega) sy l5.symm;rw [ly]at this;exact this
   cases hb:(cv sj).back? with
   | none=>exact J2 sj rs b4 rfl
   | some q=>
    obtain⟨s1,m1,m2⟩:=q;refine aI (fh (dM (I:=fun _ c cq=>c=(none,())/\ ∃A3,RI κ lt a0 A3 (y ++ qN) cq/\(flat A3).length=(flat rs).length) (Q:=fun c cq=>c=(none,())/\ ∃A3,RI κ lt a0 A3 (y ++ qN) cq/\(flat A3).length=(flat rs).length) ?_ (fun _ _ z=>z) ⟨rfl,rs,b4,rfl⟩) ?_)
    ·rintro x' c' st5 _ S3 ⟨rfl,A3,b5,l5⟩;refine aI (ou ?_);dsimp only;have KA:(cv st5).size=A3.length:=by rw [b5.pend,aD,oC]
     by_cases h1:(cv st5).size > 1
     ·rw [if_pos h1];cases hq:(cv st5)[(cv st5).size - 2]? with
      | none=>exact aM ⟨rfl,A3,b5,l5⟩
      | some q=>
       obtain⟨q1,q2,W7⟩:=q;refine ck (fun _=>aM ⟨rfl,A3,b5,l5⟩) fun _=> ?_;rw [KA];refine aI (b5.merge o c nd hS (by omega) fun JU cq b' k1 k2=> ?_);exact aM ⟨rfl,JU,b',by omega⟩
     ·rw [if_neg h1];exact aM ⟨rfl,A3,b5,l5⟩
    ·rintro c' st5 ⟨rfl,A3,b5,l5⟩;refine aI (ow ?_);obtain⟨Y5,b6,l6⟩:=b5.power (power' a0.length (2 * s1+m1) (2 * s1+m1+m1+n) a0.length);exact J2 _ Y5 b6 (by omega)
  have m2:m<=a0.length - (flat rs).length:=m2;refine ck (fun e1=> ?_) fun e1=> ?_
  ·refine aI (sG (fE ⟨rfl, ?_⟩));have e1:m < minRun' a0.length a0.length 0:=e1;refine aI (B6 (n:=force) o c nd hS b2 (show(flat rs).length+min (a0.length - (flat rs).length) (minRun' a0.length a0.length 0)<=a0.length by omega) m1 (show m<=min (a0.length - (flat rs).length) (minRun' a0.length a0.length 0) by omega) u2 fun sj b3 u3=> ?_);exact fh (J force sj b3 (show 1<=min (a0.length - (flat rs).length) (minRun' a0.length a0.length 0) by omega) (show(flat rs).length+min (a0.length - (flat rs).length) (minRun' a0.length a0.length 0)<=a0.length by omega) u3) fun r cq z=>by cases r <;> exact z
  ·exact fh (J m mY b2 m1 (by omega) u2) fun r cq z=>by cases r <;> exact z
 ·rintro c' og ⟨rs,rest,rfl,b,VW⟩;exact⟨rs,rest,rfl,b,by omega⟩
 ·rintro c' og ⟨rs,rest,rfl,b,VW⟩;have Y8:rest= []:=by
   have:=b.perm.length_eq;rw [b.arr,aq]at this;exact BH.mp (by omega)
  subst Y8;have Q8:(flat rs).length=a0.length:=by
   have:=b.perm.length_eq;rw [b.arr,aq]at this;simpa using this
  have A0:=b.iT;refine aI (fh (dM (I:=fun x c cq=>c=(none,())/\ ∃rs,RI κ lt a0 rs [] cq/\(rs.length+x<=a0.length\/rs.length<=1)) (Q:=fun c cq=>c=(none,())/\ ∃rs,RI κ lt a0 rs [] cq/\rs.length<=1) ?_ ?_ ⟨rfl,rs,b, .inl (by omega)⟩) ?_)
  ·rintro x c' mY _ hx ⟨rfl,rs,b,hl⟩;refine aI (ou ?_);have KA:(cv mY).size=rs.length:=by rw [b.pend,aD,oC]
   dsimp only;rw [KA];refine ck (fun e=>aM ⟨rfl,rs,b,e⟩) fun e=> ?_;have e: ¬rs.length<=1:=e;refine aI (b.merge o c nd hS ?_ fun JU cq b' l1 l2=> ?_)
   ·by_cases z0:rs.length - 2 > 0
    ·rw [if_pos z0]
     split <;> omega
    ·rw [if_neg z0,if_neg (by simp)];omega
   ·exact aM ⟨rfl,JU,b', .inl (by omega)⟩
  ·rintro c' mY ⟨rfl,rs,b,hl⟩;exact⟨rfl,rs,b,by rcases hl with hl | hl <;> omega⟩
  ·rintro c' mY ⟨rfl,rs,b,hl⟩;refine aM (h mY b.failed b.perm ?_);rw [b.arr,bz]
   match rs,hl,b with
   | [],_,_=>exact eY
   | [(x,pw)],_,b=>
    rw [fe];have:=(b.good (x,pw) (.head _)).2;simpa [flat]using this
end
abbrev gH:=List (List Int)
section
variable {prog:aH}{w:aW}
abbrev T1(prog:aH)(w:aW)(h:aY)(r:List Int)(b:ai):Prop:=(lu (gJ prog w)).is h r b
inductive qR(prog:aH)(w:aW)(h:aY):gH->List af->Prop
 | nil:qR prog w h [] []
 | cons {r:List Int} {b:ai} {rs:gH} {vs:List af}:T1 prog w h r b->qR prog w h rs vs->qR prog w h (r::rs) (.ref b::vs)
def T2(prog:aH)(w:aW)(h:aY)(rs:gH)(a:ai):Prop:= ∃o items n,h.get? a=some o/\o.cls= .type "tuple"/\o.data= .seq items n/\qR prog w h rs items.toList
theorem T1.keep{h h':aY}{r:List Int}{b:ai}(x:T1 prog w h r b)(k: ∀c o,(o.cls= .type "tuple"/\ ∃items n,o.data= .seq items n)->h.get? c=some o->h'.get? c=some o):T1 prog w h' r b:=
 let⟨o,items,n,h1,h2,h3⟩:=x; ⟨o,items,n,k b o ⟨h2,_,_,h3.1⟩ h1,h2,h3⟩
theorem qR.keep{h h':aY}(k: ∀c o,(o.cls= .type "tuple"/\ ∃items n,o.data= .seq items n)->h.get? c=some o->h'.get? c=some o): ∀{rs:gH} {vs:List af},qR prog w h rs vs->qR prog w h' rs vs
 | _,_, .nil=> .nil
 | _,_, .cons x t=> .cons (T1.keep x k) (qR.keep k t)
theorem T2.keep{h h':aY}{rs:gH}{a:ai}(x:T2 prog w h rs a)(k: ∀c o,(o.cls= .type "tuple"/\ ∃items n,o.data= .seq items n)->h.get? c=some o->h'.get? c=some o):T2 prog w h' rs a:=
 let⟨o,items,n,h1,h2,h3,h4⟩:=x; ⟨o,items,n,k a o ⟨h2,_,_,h3⟩ h1,h2,h3,h4.keep k⟩
theorem qR.inj{h:aY}: ∀{x y:gH} {vs:List af},qR prog w h x vs->qR prog w h y vs->x=y
 | _,_,_, .nil, .nil=>rfl
 | _,_,_, .cons a s, .cons b t=>by rw [(lu (gJ prog w)).inj a b,qR.inj s t]
theorem T2.inj{h:aY}{a:ai}{x y:gH}(p:T2 prog w h x a)(q:T2 prog w h y a):x=y:=by
 obtain⟨o,i,n,h1,_,h3,h4⟩:=p;obtain⟨o',i',n',Gh,_,Xk,h4'⟩:=q;rw [h1]at Gh;cases Gh;rw [h3]at Xk;cases Xk;exact h4.inj h4'
theorem qR.len{h:aY}: ∀{rs:gH} {vs:List af},qR prog w h rs vs->rs.length=vs.length
 | _,_, .nil=>rfl
 | _,_, .cons _ t=>by rw [aK,aK,qR.len t]
theorem T2.ty{s:aj}{rs:gH}{a:ai}(x:T2 prog w s.heap rs a):s.TypeIs (.ref a) "tuple":=let⟨o,_,_,h1,h2,_⟩:=x; ⟨o,h1,h2⟩
def As(r:List Int):PyData:= .tuple (r.map .int)
def Gd(rs:gH):PyData:= .tuple (rs.map As)
theorem rN{h:aY}: ∀{r:List Int} {vs:List af},qg (gJ prog w) r vs->ReadsAll h vs (r.map .int) []
 | _,_, .nil=> .nil
 | _,_, .cons a t=>by
  obtain⟨tk,rfl⟩:=ml a;exact .cons (.int _ tk) (rN t)
theorem uR{h:aY}{r:List Int}{b:ai}(x:T1 prog w h r b): ∃as,Reads h (.ref b) (As r) as:=by
 obtain⟨o,items,n,h1,h2,h3,h4⟩:=x;exact⟨_, .tuple h1 h2 h3 (rN h4)⟩
theorem wV{h:aY}: ∀{rs:gH} {vs:List af},qR prog w h rs vs-> ∃as,ReadsAll h vs (rs.map As) as
 | _,_, .nil=>⟨_, .nil⟩
 | _,_, .cons x t=>by
  obtain⟨as,q⟩:=uR x;obtain⟨bs,u⟩:=wV t;exact⟨_, .cons q u⟩
theorem zo{h:aY}{rs:gH}{a:ai}(x:T2 prog w h rs a): ∃as,Reads h (.ref a) (Gd rs) as:=by
 obtain⟨o,items,n,h1,h2,h3,h4⟩:=x;obtain⟨as,q⟩:=wV h4;exact⟨_, .tuple h1 h2 h3 q⟩
theorem lay_ints: ∀r:List Int,e9 (r.map .int)=true
 | []=>by simp [e9]
 | x::r=>by simp only [a9,e9,jz,lay_ints r,gS]
theorem yr(r:List Int):(As r).canLay0=true:=by unfold As; simp only [jz,lay_ints]
theorem AS: ∀rs:gH,e9 (rs.map As)=true
 | []=>by simp [e9]
 | x::r=>by simp only [a9,e9,yr,AS r,gS]
theorem DC(rs:gH):(Gd rs).canLay0=true:=by unfold Gd; simp only [jz,AS]
theorem z6: ∀r:List Int,c_ (r.map .int)=0
 | []=>by simp [c_]
 | x::r=>by simp only [a9,c_,kZ,z6 r,Nat.max_self]
theorem xy(r:List Int):(As r).depth=1:=by unfold As; simp only [kZ,z6]
theorem zF: ∀rs:gH,c_ (rs.map As)<=1
 | []=>by simp [c_]
 | x::r=>by simp only [a9,c_,xy]; exact Nat.max_le.mpr ⟨ay _,zF r⟩
theorem LZ(rs:gH):(Gd rs).depth<=2:=by unfold Gd; simp only [kZ]; have:=zF rs; omega
theorem Qd: ∀(x y:List Int),dY (x.map .int) (y.map .int)=decide (x=y)
 | [], []=>by simp [dY]
 | [],_::_=>by simp [dY]
 | _::_, []=>by simp [dY]
 | a::x,b::y=>by
  simp only [a9,dY,Qd x y,hW]
  by_cases h:a=b <;> by_cases h':x=y <;> simp [h,h']
theorem DR(x y:List Int):hW (As x) (As y)=decide (x=y):=by unfold As; simp only [hW,Qd]
theorem Qs: ∀(x y:gH),dY (x.map As) (y.map As)=decide (x=y)
 | [], []=>by simp [dY]
 | [],_::_=>by simp [dY]
 | _::_, []=>by simp [dY]
 | a::x,b::y=>by
  simp only [a9,dY,Qs x y,DR]
  by_cases h:a=b <;> by_cases h':x=y <;> simp [h,h']
theorem DQ(x y:gH):hW (Gd x) (Gd y)=decide (x=y):=by unfold Gd; simp only [hW,Qs]
variable {A:bA}{E:af->aj->Prop}{s:aj}
theorem Dv{x y:List Int}{a b:ai}(hu:A.units+1 < cLine)(p:T1 prog w s.heap x a)(q:T1 prog w s.heap y b):SeqAt.EqAt A s (.ref a) (.ref b) (decide (x=y)):=by
 obtain⟨as,r1⟩:=uR p;obtain⟨bs,r2⟩:=uR q;have:=SeqAt.eqAt_reads (As x) (As y) A s (.ref a) (.ref b) as bs r1 r2 (yr x) (yr y) (by rw [xy,xy]; exact hu);rw [DR]at this;exact this
theorem Dg{x y:gH}{a b:ai}(hu:A.units+2 < cLine)(p:T2 prog w s.heap x a)(q:T2 prog w s.heap y b):SeqAt.EqAt A s (.ref a) (.ref b) (decide (x=y)):=by
 obtain⟨as,r1⟩:=zo p;obtain⟨bs,r2⟩:=zo q;have:=SeqAt.eqAt_reads (Gd x) (Gd y) A s (.ref a) (.ref b) as bs r1 r2 (DC x) (DC y) (by have:=LZ x; have:=Nat.min_le_left (Gd x).depth (Gd y).depth; omega);rw [DQ]at this;exact this
def wW(prog:aH)(w:aW)(rs:gH):Int:=yZ (fN (rs.map (lu (gJ prog w)).hash))
def lb:gH->Nat
 | []=>0
 | r::rs=>(r.length+1)+lb rs
theorem wZ: ∀a b:gH,lb (a ++ b)=lb a+lb b
 | [],b=>by simp [lb]
 | r::a,b=>by rw [nq,lb,lb,wZ a b]; omega
theorem LQ{rs:gH}{a:ai}{Q:Int->aj->Prop}(hu:A.units+1 < cLine)(x:T2 prog w s.heap rs a)(h:Q (wW prog w rs) {s with toks:=s.toks+(lb rs+1)}):av (aC prog w) A (pyHash (.ref a)) Q E s:=by
 have ty:=x.ty;obtain⟨o,items,n,h1,_,h3,h4⟩:=x;have Zz:A.units < cLine:=by omega
 unfold pyHash
 first | unfold pyHashByItsType | skip
 first | refine aa (wpAny_cRoomFor_or (.inr Zz) ?_) | skip
 refine aa (fQ ty sH.lookup ?_);show av _ _ (if(some (Value.builtin "tuple.__hash__")==some bD)=true then _ else _) Q E s;rw [if_neg (by rw [beq_builtin_none]; exact aG)];refine aa (fQ ty sH.lookup ?_);show av _ _ (callSpecialIfBoundUnlessNone? (.ref a) "__hash__" _ >>=_) Q E s;refine aa (wpAny_callSpecialIfBoundUnlessNone?_slot ty sH (bU sH ty F.entry_tuple_hash ?_ (F.args_tuple_hash_1 _)));show av _ _ (yX (.ref a) >>=_) _ _ s;refine aa (wpAny_tupleItemsOf h1 h3 ?_);refine aa ?_;rw [<-eO];refine ng _ (fun rest (b:Array Int) s'=> ∃d l,rs=d ++ l/\qR prog w s.heap l rest/\b.toList=d.map (lu (gJ prog w)).hash/\s'={s with toks:=s.toks+lb d}) _ ?_ ?_ _ _ ⟨[],rs,rfl,h4,rfl,rfl⟩
 ·rintro v rest b s' ⟨d,l,rfl,hl,hb,rfl⟩;cases hl with
  | @cons r c ks _ q A8=>
   refine aa ((lu (gJ prog w)).pyHash (show A.in1.units < cLine from hu) q ?_);have e:lb (d ++ [r])=lb d+(r.length+1):=by rw [wZ]; rfl
   have fin:({s with toks:=s.toks+lb d+(r.length+1)}:aj)={s with toks:=s.toks+lb (d ++ [r])}:=by rw [e,mR]
   first
    | exact ag ⟨d ++ [r],ks,by simp,A8,by simp [hb],fin⟩
    | exact aa (ag (ag ⟨d ++ [r],ks,by simp,A8,by simp [hb],fin⟩))
 ·rintro b s' ⟨d,l,rfl,hl,hb,rfl⟩;cases hl;rw [bz]at h;show av _ _ (retInt (fN b.toList)) _ _ _;rw [hb];refine wpAny_ret_mkInt ?_;unfold wW yZ at h;generalize fN (d.map (lu (gJ prog w)).hash)=z at h ⊢;show av _ _ (if(decide (-(2:Int) ^ 63<=z)&&decide (z < 2 ^ 63))=true then _ else _) Q E _
  by_cases hz:(decide (-(2:Int) ^ 63<=z)&&decide (z < 2 ^ 63))=true
  ·rw [if_pos hz]at h ⊢;exact ag h
  ·rw [if_neg hz]at h ⊢;exact aa (fE (ag h))
theorem Ij{r:List Int}{b:ai}{n:Nat}{Q:Bool->aj->Prop}(x:T1 prog w s.heap r b)(h:Q true s):av (aC prog w) A (BJ (n+1) (.ref b)) Q E s:=by
 have ty:s.TypeIs (.ref b) "tuple":=IsTupleKey.typeIs x;obtain⟨o,items,k,h1,_,h3,h4⟩:=x;unfold BJ;refine aa (fQ ty F.slot_tuple_eq.lookup ?_);show av _ _ (isInstance (.ref b) (.type "tuple") >>=_) _ _ s;refine aa (fy ty isSubtype_tuple_tuple ?_);simp only [dZ,aZ,if_false];refine aa (c9 h1 h3 ?_);refine aa ?_;show av _ _ (forIn items _ _) _ _ s;rw [<-eO];refine ng _ (fun rest z s'=>z.1=none/\s'=s/\ ∀v∈rest,carriedByValue v=true) _ ?_ ?_ _ _ ⟨rfl,rfl,h4.byValue⟩
 ·rintro v rest z s' ⟨hz,rfl,all⟩;rw [eqIsQuiet_byValue _ (all v dO)];refine aa (ag ?_);simp only [dZ,aZ,if_false];exact ag ⟨rfl,rfl,fun u q=>all u (c7 _ q)⟩
 ·rintro⟨z1,z2⟩ s' ⟨hz,rfl,_⟩;simp only at hz;subst hz;exact ag h
theorem Iz{rs:gH}{a:ai}{n:Nat}{Q:Bool->aj->Prop}(x:T2 prog w s.heap rs a)(h:Q true s):av (aC prog w) A (BJ (n+2) (.ref a)) Q E s:=by
 have ty:=x.ty;obtain⟨o,items,k,h1,_,h3,h4⟩:=x;unfold BJ;refine aa (fQ ty F.slot_tuple_eq.lookup ?_);show av _ _ (isInstance (.ref a) (.type "tuple") >>=_) _ _ s;refine aa (fy ty isSubtype_tuple_tuple ?_);simp only [dZ,aZ,if_false];refine aa (c9 h1 h3 ?_);refine aa ?_;show av _ _ (forIn items _ _) _ _ s;rw [<-eO];refine ng _ (fun rest z s'=>z.1=none/\s'=s/\ ∃l,qR prog w s.heap l rest) _ ?_ ?_ _ _ ⟨rfl,rfl,rs,h4⟩
 ·rintro v rest z s' ⟨hz,rfl,l,hl⟩;cases hl with
  | cons q t=>
   refine aa (Ij q ?_);simp only [dZ,aZ,if_false];exact ag ⟨rfl,rfl,_,t⟩
 ·rintro⟨z1,z2⟩ s' ⟨hz,rfl,_⟩;simp only at hz;subst hz;exact ag h
end
def kh(prog:aH)(w:aW):HeapKind prog w gH where
 is:=T2 prog w
 hash:=wW prog w
 draws:=fun rs=>lb rs+1
 room:=fun A=>A.units+2 < cLine
 inj:=fun p q=>p.inj q
 keeps:=fun{h h' k a d o es ep} x ho hd hs=>x.keep fun c u hc hu=>by
  refine(hs.2 c ?_).trans hu;rintro rfl;rw [hu]at ho;cases ho;obtain⟨_,_,_,z⟩:=hc;rw [hd]at z;cases z
 pyHash:=fun hu x h=>LQ (by omega) x h
 eqBool:=fun{A E s x y a b Q} hu p q h=>Dg hu p q prog w E Q h
 quiet:=fun x h=>Iz (n:=6) x h
end Z
namespace Z
open PySem PySem.Spec PyProof.Rows
section
variable {prog:aH}{w:aW}{A:bA}{E:af->aj->Prop}{s:aj}
abbrev TK(prog:aH)(w:aW)(h:aY)(ks:List Int)(b:ai):Prop:=IsTupleKey (gJ prog w) h ks b
abbrev X6(prog:aH)(w:aW)(ks:List Int):Int:=tupleKeyHash (gJ prog w) ks
theorem yC{ks:List Int}{vs:List af}(h:qg (gJ prog w) ks vs): ∀v∈vs, ∃i tk,v=gR i tk:=by
 induction h with
 | nil=>intro v hv; cases hv
 | cons h1 _ ih=>
  intro v hv
  rcases aV.mp hv with rfl | hv
  ·obtain⟨t,rfl⟩:=ml h1;exact⟨_,t,rfl⟩
  ·exact ih v hv
theorem Aa{ks:List Int}{b:ai}{Q:Bool->aj->Prop}{n:Nat}(hk:TK prog w s.heap ks b)(h:Q false s):av (aC prog w) A (fZ (n+1) (.ref b)) Q E s:=by
 obtain⟨ob,items,m,ho,hc,hd,hi⟩:=id hk;unfold fZ;refine aa (fq hk.typeIs ?_);dsimp only;rw [if_pos (by decide)];refine aa (ag ?_);simp only [dZ,aZ,if_false];refine aa (c9 ho hd ?_);dsimp only;have loop: ∀(l:List af),(∀v∈l, ∃i tk,v=gR i tk)->av (aC prog w) A (forIn l ((none,()):Option Bool×Unit) fun y Vb=>do
      let dG<-fZ n y
      if dG=true then pure (y9 (some true,()))else pure (fS (none,()))) (fun r s'=>r=(none,())/\s'=s) E s:=by
  intro l
  induction l with
  | nil=>intro _; rw [eT]; exact ag ⟨rfl,rfl⟩
  | cons v l ih=>
   intro hv;rw [cJ];obtain⟨i,tk,rfl⟩:=hv v (.head _);have e:fZ n (.int i tk)=pure false:=by cases n <;> rfl
   rw [e];exact aa (ag (ih fun x hx=>hv x (.tail _ hx)))
 rw [<-eO];refine aa (b_ (loop items.toList (yC hi)) (fun r s' hr=> ?_) fun _ _ x=>x);obtain⟨rfl,rfl⟩:=hr;exact ag h
theorem Di{ks:List Int}{b:ai}{Q:Bool->aj->Prop}{n:Nat}(hk:TK prog w s.heap ks b)(h:Q true s):av (aC prog w) A (ky (n+1) (.ref b)) Q E s:=by
 obtain⟨ob,items,m,ho,hc,hd,hi⟩:=id hk;unfold ky;refine aa (fQ hk.typeIs PySem.F.slot_tuple_hash.lookup ?_);refine aa (c9 ho hd ?_);have loop: ∀(l:List af),(∀v∈l, ∃i tk,v=gR i tk)->av (aC prog w) A (forIn l ((none,()):Option Bool×Unit) fun x Vb=>do
      let dG<-ky n x
      if(!dG)=true then pure (y9 (some false,()))else pure (fS (none,()))) (fun r s'=>r=(none,())/\s'=s) E s:=by
  intro l
  induction l with
  | nil=>intro _; rw [eT]; exact ag ⟨rfl,rfl⟩
  | cons v l ih=>
   intro hv;rw [cJ];obtain⟨i,tk,rfl⟩:=hv v (.head _);have e:ky n (.int i tk)=pure true:=by cases n <;> rfl
   rw [e];exact aa (ag (ih fun x hx=>hv x (.tail _ hx)))
 rw [MN, <-eO];refine aa (b_ (loop items.toList (yC hi)) (fun r s' hr=> ?_) fun _ _ x=>x);obtain⟨rfl,rfl⟩:=hr;exact ag h
theorem TK.keep{h h':aY}{b:ai}{ks:List Int}(x:TK prog w h ks b)(k: ∀o,h.get? b=some o->h'.get? b=some o):TK prog w h' ks b:=by
 obtain⟨o,items,n,ho,r⟩:=x;exact⟨o,items,n,k o ho,r⟩
def Qx(prog:aH)(w:aW):nF prog w (List Int) where
 is:=TK prog w
 hash:=X6 prog w
 draws:=fun ks=>ks.length+1
 room:=fun A=>A.units < cLine
 inj:=fun x y=>IsTupleKey.inj x y
 keep:=fun⟨o,items,n,ho,hc,hd,hi⟩ k=>⟨o,items,n,k _ o ⟨hc,items,n,hd⟩ ho,hc,hd,hi⟩
 lt:=fun⟨o,items,n,ho,hc,hd,hi⟩=>⟨o,⟨hc,items,n,hd⟩,ho⟩
 eqB:=fun hu x y h=>wpAny_eqBool_tuple hu x y h
 Hd:=fun hu x h=>wpAny_pyHash_tuple hu x h
 quiet:=fun x h=>wpAny_eqIsQuiet_tuple x h
 K9:=fun x h=>Aa x h
 Tf:=fun x h=>Di x h
theorem qR.mem{h:aY}: ∀{rs:gH} {vs:List af},qR prog w h rs vs-> ∀v∈vs, ∃r b,v=au b/\T1 prog w h r b
 | _,_, .nil,v,hv=>by cases hv
 | _,_, .cons (r:=r) (b:=b) a t,v,hv=>by
  rcases aV.mp hv with rfl | hv
  ·exact⟨r,b,rfl,a⟩
  ·exact qR.mem t v hv
theorem Ly{rs:gH}{b:ai}{Q:Bool->aj->Prop}{n:Nat}(hk:T2 prog w s.heap rs b)(h:Q false s):av (aC prog w) A (fZ (n+2) (.ref b)) Q E s:=by
 have ty:=hk.ty;obtain⟨ob,items,m,ho,hc,hd,hi⟩:=id hk;unfold fZ;refine aa (fq ty ?_);dsimp only;rw [if_pos (by decide)];refine aa (ag ?_);simp only [dZ,aZ,if_false];refine aa (c9 ho hd ?_);dsimp only;have loop: ∀(l:List af),(∀v∈l, ∃r b,v=au b/\T1 prog w s.heap r b)->av (aC prog w) A (forIn l ((none,()):Option Bool×Unit) fun y Vb=>do
      let dG<-fZ (n+1) y
      if dG=true then pure (y9 (some true,()))else pure (fS (none,()))) (fun r s'=>r=(none,())/\s'=s) E s:=by
  intro l
  induction l with
  | nil=>intro _; rw [eT]; exact ag ⟨rfl,rfl⟩
  | cons v l ih=>
   intro hv;rw [cJ];obtain⟨r,c,rfl,t1⟩:=hv v (.head _);refine aa (aa (Aa t1 ?_));simp only [aZ,if_false];exact ag (ih fun x hx=>hv x (.tail _ hx))
 rw [<-eO];refine aa (b_ (loop items.toList hi.mem) (fun r s' hr=> ?_) fun _ _ x=>x);obtain⟨rfl,rfl⟩:=hr;exact ag h
theorem OB{rs:gH}{b:ai}{Q:Bool->aj->Prop}{n:Nat}(hk:T2 prog w s.heap rs b)(h:Q true s):av (aC prog w) A (ky (n+2) (.ref b)) Q E s:=by
 have ty:=hk.ty;obtain⟨ob,items,m,ho,hc,hd,hi⟩:=id hk;unfold ky;refine aa (fQ ty PySem.F.slot_tuple_hash.lookup ?_);refine aa (c9 ho hd ?_);have loop: ∀(l:List af),(∀v∈l, ∃r b,v=au b/\T1 prog w s.heap r b)->av (aC prog w) A (forIn l ((none,()):Option Bool×Unit) fun x Vb=>do
      let dG<-ky (n+1) x
      if(!dG)=true then pure (y9 (some false,()))else pure (fS (none,()))) (fun r s'=>r=(none,())/\s'=s) E s:=by
  intro l
  induction l with
  | nil=>intro _; rw [eT]; exact ag ⟨rfl,rfl⟩
  | cons v l ih=>
   intro hv;rw [cJ];obtain⟨r,c,rfl,t1⟩:=hv v (.head _);refine aa (aa (Di t1 ?_));simp only [dZ,aZ,if_false];exact ag (ih fun x hx=>hv x (.tail _ hx))
 rw [MN, <-eO];refine aa (b_ (loop items.toList hi.mem) (fun r s' hr=> ?_) fun _ _ x=>x);obtain⟨rfl,rfl⟩:=hr;exact ag h
def QP(prog:aH)(w:aW):nF prog w gH where
 is:=T2 prog w
 hash:=(kh prog w).hash
 draws:=(kh prog w).draws
 room:=(kh prog w).room
 inj:=fun x y=>T2.inj x y
 keep:=fun x k=>T2.keep x fun c o hc e=>k c o hc e
 lt:=fun⟨o,items,n,ho,hc,hd,hi⟩=>⟨o,⟨hc,items,n,hd⟩,ho⟩
 eqB:=fun hu x y h=>(kh prog w).eqBool hu x y h
 Hd:=fun hu x h=>(kh prog w).pyHash hu x h
 quiet:=fun x h=>(kh prog w).quiet x h
 K9:=fun x h=>Ly x h
 Tf:=fun x h=>OB x h
end
end Z
namespace Z
open PySem PySem.Spec PyProof.Rows L2
def Kv(X:Cx)(ρ:fB)(e:Expr)(P:D->Prop):Prop:= ∀(M0:MP) (H0:Hp) (γ:List (D×V)) (α:Nat->ai) (σ:St) (H:Hp) (Q:VK),Rep X.K M0 H0 γ α ρ σ H->
 (∀d v H',P d->bQ H H'->Dn X.K (MM M0 ρ α) H' d v->Q v H')->tE X e σ H Q
section
variable {X:Cx}{ρ:fB}{M0:MP}{H0:Hp}{P:pJ}{e a b:Expr}{d:D}{ds:List D}{pos pos' p p2 p3 p4 p5:Pos}
theorem ar.toP{R:D->Prop}(h:ar X ρ e d)(q:R d):Kv X ρ e R:=fun M0 H0 γ α σ H Q r k=>h M0 H0 γ α σ H Q r fun v H' s x=>k d v H' q s x
def pairD(p:Int×Int):D:= .tup [.int p.1, .int p.2]
def N3(p:Int×Int):List Int:= [p.1,p.2]
end
end Z
namespace Z
open PySem PySem.Spec PyProof.Rows
section
variable {prog:aH}{w:aW}{A:bA}{E:af->aj->Prop}{s:aj}
theorem uA{M:Model}{a:ai}{Q:Option Obj->aj->Prop}(h: ∀r,Q r s):av M A (FX a) Q E s:=fun _ _ _=>h _
theorem ju{it t:ai}{i:Nat}{items:Array af}{x:af}{Q:af->aj->Prop}(hit:s.heap.IsTupleIter it t i)(ht:s.heap.IsTuple t items)(hx:items[i]? =some x)
  (hQ: ∀h',h'.IsTupleIter it t (i+1)->bR it s.heap h'->Q x {s with heap:=h'}):av (aC prog w) A (bZ (.ref it)) Q E s:=by
 obtain⟨o,ho,hc,hd⟩:=id hit;obtain⟨ol,PV,_,nl,My⟩:=ht;have hT:s.TypeIs (.ref it) "tuple_iterator":=⟨o,ho,hc⟩;unfold bZ;refine aa (c6 (name:=iA "__next__") hT jH (bU jH hT PySem.F.entry_tuple_iterator_next ?_ (PySem.F.args_tuple_iterator_next_1 _)));show av _ _ (field (.ref it) 0 >>=_) _ _ s;refine aa (bW ho hd (x:= .ref t) rfl ?_);show av _ _ (if(au t==bD)=true then _ else _) _ _ s;rw [if_neg (show ¬((au t==bD)=true)from aG)];show av _ _ (field (.ref it) 1 >>=_) _ _ s;refine aa (bW ho hd (x:= .int i 0) rfl ?_);show av _ _ (seqItems? (.ref t) >>=_) _ _ s;refine aa (c9 PV My ?_);simp only [cP,hx];refine aa (eU ho hd (by simp) (ag ⟨x,rfl,ag (hQ _ ?_ (bG ..))⟩));exact⟨_,dw _ ho (pA (lO hd _)),(Obj.cls_mapFields ..).trans hc,by rw [lO hd]; simp [fm]⟩
theorem i3{it t:ai}{i:Nat}{items:Array af}{Q:af->aj->Prop}(hh:A.handled=none)(hit:s.heap.IsTupleIter it t i)(ht:s.heap.IsTuple t items)(hx:items[i]? =none)
  (hE: ∀h' e,FV it s.heap h'->(∃o,h'.get? e=some o/\o.cls= .type "StopIteration")->E (.ref e) {s with heap:=h'}):av (aC prog w) A (bZ (.ref it)) Q E s:=by
 obtain⟨o,ho,hc,hd⟩:=id hit;obtain⟨ol,PV,_,nl,My⟩:=ht;have hT:s.TypeIs (.ref it) "tuple_iterator":=⟨o,ho,hc⟩;unfold bZ;refine aa (c6 (name:=iA "__next__") hT jH (bU jH hT PySem.F.entry_tuple_iterator_next ?_ (PySem.F.args_tuple_iterator_next_1 _)));show av _ _ (field (.ref it) 0 >>=_) _ _ s;refine aa (bW ho hd (x:= .ref t) rfl ?_);show av _ _ (if(au t==bD)=true then _ else _) _ _ s;rw [if_neg (show ¬((au t==bD)=true)from aG)];show av _ _ (field (.ref it) 1 >>=_) _ _ s;refine aa (bW ho hd (x:= .int i 0) rfl ?_);show av _ _ (seqItems? (.ref t) >>=_) _ _ s;refine aa (c9 PV My ?_);simp only [cP,hx];refine aa (fE (aa (eU ho hd (by simp) ?_)));show av _ _ (vC (.type "StopIteration") [] >>=_) _ _ _;refine aa ?_;simp only [vC,newTuple];refine aa (bx ?_ (by size_fits));refine aa (m:=ij _ _) (vL (a:=bD) (by first | rfl | (simp only [ij]; rfl)) ?_);refine bx ?_ (by size_fits);simp only [raiseNew];refine aa (Bl ?_);rw [show A.in1.handled=none from hh];refine aa (ag (FW ?_));exact hE _ _ (((bG ..).extBut.push _).push _) ⟨_,aw _ rfl,rfl⟩
def qw(h:aY)(z TI TO i1 i2:ai):Prop:=(∃f0 f1,h.get? z=some {cls:= .type "zip",dict:=none,data:= .fields #[f0, .bool f1, .bool false, .ref TI, .ref TO],slots:= #[]}/\(f0= .none\/ ∃T:Nat,f0=fm T))/\lP h TI (.ref i1) (.ref i2)/\ ∃a b,lP h TO a b
structure PD(z TI TO i1 i2:ai):Prop where
 TIz:TI≠z
 TOz:TO≠z
 i1z:i1≠z
 i2z:i2≠z
 TITO:TI≠TO
 TIi1:TI≠i1
 TIi2:TI≠i2
 TOi1:TO≠i1
 TOi2:TO≠i2
 i12:i1≠i2
theorem ED{z TI TO i1 i2 t1 t2:ai}{k:Nat}{xs ys:Array af}{x y:af}{Q:af->aj->Prop}(D:PD z TI TO i1 i2)(D1:t1≠z/\t1≠TO/\t1≠i1/\t1≠i2)(D2:t2≠z/\t2≠TO/\t2≠i1/\t2≠i2)(hZ:qw s.heap z TI TO i1 i2)
  (h1:s.heap.IsTupleIter i1 t1 k)(h2:s.heap.IsTupleIter i2 t2 k)(O2:s.heap.IsTuple t1 xs)(Pl:s.heap.IsTuple t2 ys)(hx:xs[k]? =some x)(hy:ys[k]? =some y)
  (hQ: ∀h',qw h' z TI TO i1 i2->h'.IsTupleIter i1 t1 (k+1)->h'.IsTupleIter i2 t2 (k+1)->lP h' s.heap.objs.size x y->
   (∀c o,c≠z->c≠TO->c≠i1->c≠i2->s.heap.get? c=some o->h'.get? c=some o)->Q (.ref s.heap.objs.size) {s with heap:=h'}):
  av (aC prog w) A (dH.«zip.__next__» ⟨[.ref z], []⟩) (fun fin s'=> ∃v,fin= .done (.ret v)/\Q v s') E s:=by
 obtain⟨⟨f0,f1,hz,PK⟩,Ge,a,b,Kz⟩:=hZ;have eb: ∀{h h':aY} {c t:ai} {j:Nat} {d:ai},h.IsTupleIter c t j->bR d h h'->c≠d->h'.IsTupleIter c t j:=fun{h h' c t j d} ⟨o,e,r⟩ sb n=>⟨o,(sb.2 c n).trans e,r⟩;have et: ∀{h h':aY} {t:ai} {is:Array af} {d:ai},h.IsTuple t is->bR d h h'->t≠d->h'.IsTuple t is:=fun{h h' t is d} ⟨o,e,r⟩ sb n=>⟨o,(sb.2 t n).trans e,r⟩;have free:av (aC prog w) A (dD (.ref z)) (fun fr s1=> ∃h' Rw,s1={s with heap:=h'}/\bR z s.heap h'/\h'.get? z=some {cls:= .type "zip",dict:=none,data:= .fields #[f0, .bool Rw, .bool false, .ref TI, .ref TO],slots:= #[]}) E s:=by
  unfold dD;have es:s={s with heap:=s.heap}:=by cases s; rfl
  rcases PK with rfl | ⟨T,rfl⟩
  ·exact aa (bW hz rfl (x:= .none) rfl (ag ⟨s.heap,f1,es,eD _ _,hz⟩))
  ·refine aa (bW hz rfl (x:=fm T) rfl ?_);show av _ _ (do
    if(<-FX (T:Int).toNat).isNone then return true
    if(<-field (.ref z) 1) != .bool true then ig (.ref z) 1 (.bool true)
    return false) _ _ _
   refine aa (uA fun r=> ?_);cases r with
   | none=>
    simp only [Option.isNone_none,if_true];exact ag ⟨s.heap,f1,es,eD _ _,hz⟩
   | some ob=>
    simp only [Option.isNone_some,aZ,if_false];refine aa (bW hz rfl (x:= .bool f1) rfl ?_);refine eI (fun _=> ?_) fun _=>ag ⟨s.heap,f1,es,eD _ _,hz⟩;exact aa (cf hz (by simp) fun h₁ rX iz=>ag ⟨h₁,true,rfl,iz,rX⟩)
 show av _ _ (field (.ref z) 2 >>=_) _ _ _;refine aa (bW hz rfl (x:= .bool false) rfl ?_);show av _ _ (field (.ref z) 3 >>=_) _ _ _;refine aa (bW hz rfl (x:= .ref TI) rfl ?_);refine aa (c9 Ge rfl ?_);show av _ _ (dD (.ref z) >>=_) _ _ _;refine aa (b_ free (fun fr s1 Mv=> ?_) fun _ _ x=>x);obtain⟨h₀,Rw,rfl,i_,xl⟩:=Mv;have CU:lP h₀ TO a b:=(i_.2 _ D.TOz).trans Kz;have vy:=eb h1 i_ D.i1z;have A7:=eb h2 i_ D.i2z;have pX:=et O2 i_ D1.1;have vw:=et Pl i_ D2.1;have VH:lP h₀ TI (.ref i1) (.ref i2):=(i_.2 _ D.TIz).trans Ge;have J6:h₀.objs.size=s.heap.objs.size:=i_.1;cases fr with
 | true=>
  simp only [if_true];refine aa (fE ?_);refine aa (bW xl rfl (x:= .ref TO) rfl ?_);refine aa (cf xl (by simp) fun h₁ rX iz=> ?_);refine aa ?_;simp only [MR,List.zipIdx_nil,cJ,eT];refine aa (aa (Bo ?_));show av _ _ (bZ (.ref i1) >>=_) _ _ _;refine aa (ju (eb vy iz D.i1z) (et pX iz D1.1) hx fun sk A5 gc=>ag ?_);have vr:lP sk TO a b:=(gc.2 _ D.TOi1).trans ((iz.2 _ D.TOz).trans CU);refine aa (c9 vr rfl ?_);refine aa (FY vr fun yT yR lq=> ?_)
  replace yR:lP yT TO x b:=yR
  refine aa (FZ (ag ?_));refine aa (aa (Bo ?_));show av _ _ (bZ (.ref i2) >>=_) _ _ _;refine aa (ju (eb (eb (eb A7 iz D.i2z) gc D.i12.symm) lq D.TOi2.symm) (et (et (et vw iz D2.1) gc D2.2.2.1) lq D2.2.1) hy fun pj JV kL=>ag ?_);have Ka:lP pj TO x b:=(kL.2 _ D.TOi2).trans yR;refine aa (c9 Ka rfl ?_);refine aa (FY Ka fun mJ yQ rY=> ?_)
  replace yQ:lP mJ TO x y:=yQ
  refine aa (FZ (ag (ag ?_)));refine aa (c9 yQ rfl ?_);refine aa (y_ ?_);have hsz:mJ.objs.size=s.heap.objs.size:=by rw [rY.1,kL.1,lq.1,gc.1,iz.1,J6]
  have WR: ∀c,c≠z->c≠TO->c≠i1->c≠i2->mJ.get? c=s.heap.get? c:=fun c c1 c2 c3 c4=>by
   rw [rY.2 c c2,kL.2 c c4,lq.2 c c2,gc.2 c c3,iz.2 c c1,i_.2 c c1]
  have Kj:mJ.get? z=h₁.get? z:=by rw [rY.2 z D.TOz.symm,kL.2 z D.i2z.symm,lq.2 z D.TOz.symm,gc.2 z D.i1z.symm]
  rw [rX]at Kj;have QV:mJ.IsTupleIter i1 t1 (k+1):=eb (eb (eb A5 lq D.TOi1.symm) kL D.i12) rY D.TOi1.symm;have Rr:mJ.IsTupleIter i2 t2 (k+1):=eb JV rY D.TOi2.symm;show av _ _ (Builtin.SmallTypes.ownedTupleHandOut (.ref z) (.ref mJ.objs.size) >>=_) _ _ _;refine aa ?_;unfold Builtin.SmallTypes.ownedTupleHandOut;have RM:(mJ.push {cls:= .type "tuple",data:= .seq #[x,y]}).get? z=_:=ah _ Kj;refine aa (cf RM (by simp) fun Zk RK Nk=> ?_);refine cf RK (by simp) fun Pd Rv NH=> ?_;have up: ∀c o,c≠z->mJ.get? c=some o->Pd.get? c=some o:=fun c o c1 e=>(NH.2 c c1).trans ((Nk.2 c c1).trans (ah _ e));have Q_:z < mJ.objs.size:=az Kj;have Nr:lP Pd mJ.objs.size x y:=(NH.2 _ (b9 Q_)).trans ((Nk.2 _ (b9 Q_)).trans (aw _ rfl));refine ag ⟨_,rfl, ?_⟩;show Q (.ref mJ.objs.size) _;rw [hsz]at Nr ⊢;refine hQ Pd ⟨⟨_,_,Rv, .inr ⟨mJ.objs.size,rfl⟩⟩,up _ _ D.TIz ((WR TI D.TIz D.TITO D.TIi1 D.TIi2).trans Ge),x,y,up _ _ D.TOz yQ⟩ ?_ ?_ Nr fun c o c1 c2 c3 c4 e=>up c o c1 ((WR c c1 c2 c3 c4).trans e)
  ·obtain⟨o,e,r⟩:=QV; exact⟨o,up _ _ D.i1z e,r⟩
  ·obtain⟨o,e,r⟩:=Rr; exact⟨o,up _ _ D.i2z e,r⟩
 | false=>
  simp only [aZ,if_false];rw [<-eO];refine aa ?_;show av _ _ (forIn [au i1,au i2] _ _) _ _ _;simp only [cJ,eT];refine aa (aa (bP ?_));show av _ _ (bZ (.ref i1) >>=_) _ _ _;refine aa (ju vy pX hx fun sk A5 gc=>ag (ag ?_));refine aa (aa (bP ?_));show av _ _ (bZ (.ref i2) >>=_) _ _ _;refine aa (ju (eb A7 gc D.i12.symm) (et vw gc D2.2.2.1) hy fun pj JV kL=>ag (ag (ag ?_)));dsimp only;refine aa (y_ (ag ⟨_,rfl, ?_⟩) (by show 2<=sizeLine; decide));have hsz:pj.objs.size=s.heap.objs.size:=by rw [kL.1,gc.1,J6]
  show Q (.ref pj.objs.size) {s with heap:=pj.push {cls:= .type "tuple",data:= .seq #[x,y]}};have hT:lP (pj.push {cls:= .type "tuple",data:= .seq #[x,y]}) pj.objs.size x y:=aw _ rfl;have up: ∀c,c≠z->c≠i1->c≠i2-> ∀o,s.heap.get? c=some o->(pj.push {cls:= .type "tuple",data:= .seq #[x,y]}).get? c=some o:=fun c c1 c2 c3 o e=>ah _ ((kL.2 c c3).trans ((gc.2 c c2).trans ((i_.2 c c1).trans e)));have A9:pj.get? z=h₀.get? z:=by rw [kL.2 z D.i2z.symm,gc.2 z D.i1z.symm]
  rw [xl]at A9;rw [hsz]at hT ⊢;refine hQ _ ⟨⟨_,_,ah _ A9,PK⟩,up _ D.TIz D.TIi1 D.TIi2 _ Ge,a,b,up _ D.TOz D.TOi1 D.TOi2 _ Kz⟩ ?_ ?_ hT fun c o c1 _ c3 c4 e=>up c c1 c3 c4 o e
  ·obtain⟨o,e,r⟩:=eb A5 kL D.i12; exact⟨o,ah _ e,r⟩
  ·obtain⟨o,e,r⟩:=JV; exact⟨o,ah _ e,r⟩
theorem Iu{z TI TO i1 i2 t1 t2:ai}{k:Nat}{xs ys:Array af}{Q:Fin->aj->Prop}(hh:A.handled=none)(D:PD z TI TO i1 i2)(D1:t1≠z/\t1≠TO/\t1≠i1/\t1≠i2)(D2:t2≠z/\t2≠TO/\t2≠i1/\t2≠i2)(hZ:qw s.heap z TI TO i1 i2)
  (h1:s.heap.IsTupleIter i1 t1 k)(h2:s.heap.IsTupleIter i2 t2 k)(O2:s.heap.IsTuple t1 xs)(Pl:s.heap.IsTuple t2 ys)(Mt:xs[k]? =none\/ys[k]? =none)
  (hE: ∀h' e,(∀c o,c≠z->c≠TO->c≠i1->c≠i2->s.heap.get? c=some o->h'.get? c=some o)->(∃o,h'.get? e=some o/\o.cls= .type "StopIteration")->E (.ref e) {s with heap:=h'}):
  av (aC prog w) A (dH.«zip.__next__» ⟨[.ref z], []⟩) Q E s:=by
 obtain⟨⟨f0,f1,hz,PK⟩,Ge,a,b,Kz⟩:=hZ;have eb: ∀{h h':aY} {c t:ai} {j:Nat} {d:ai},h.IsTupleIter c t j->bR d h h'->c≠d->h'.IsTupleIter c t j:=fun{h h' c t j d} ⟨o,e,r⟩ sb n=>⟨o,(sb.2 c n).trans e,r⟩;have et: ∀{h h':aY} {t:ai} {is:Array af} {d:ai},h.IsTuple t is->bR d h h'->t≠d->h'.IsTuple t is:=fun{h h' t is d} ⟨o,e,r⟩ sb n=>⟨o,(sb.2 t n).trans e,r⟩;have free:av (aC prog w) A (dD (.ref z)) (fun fr s1=> ∃h' Rw,s1={s with heap:=h'}/\bR z s.heap h'/\h'.get? z=some {cls:= .type "zip",dict:=none,data:= .fields #[f0, .bool Rw, .bool false, .ref TI, .ref TO],slots:= #[]}) E s:=by
  unfold dD;have es:s={s with heap:=s.heap}:=by cases s; rfl
  rcases PK with rfl | ⟨T,rfl⟩
  ·exact aa (bW hz rfl (x:= .none) rfl (ag ⟨s.heap,f1,es,eD _ _,hz⟩))
  ·refine aa (bW hz rfl (x:=fm T) rfl ?_);show av _ _ (do
    if(<-FX (T:Int).toNat).isNone then return true
    if(<-field (.ref z) 1) != .bool true then ig (.ref z) 1 (.bool true)
    return false) _ _ _
   refine aa (uA fun r=> ?_);cases r with
   | none=>
    simp only [Option.isNone_none,if_true];exact ag ⟨s.heap,f1,es,eD _ _,hz⟩
   | some ob=>
    simp only [Option.isNone_some,aZ,if_false];refine aa (bW hz rfl (x:= .bool f1) rfl ?_);refine eI (fun _=> ?_) fun _=>ag ⟨s.heap,f1,es,eD _ _,hz⟩;exact aa (cf hz (by simp) fun h₁ rX iz=>ag ⟨h₁,true,rfl,iz,rX⟩)
 show av _ _ (field (.ref z) 2 >>=_) _ _ _;refine aa (bW hz rfl (x:= .bool false) rfl ?_);show av _ _ (field (.ref z) 3 >>=_) _ _ _;refine aa (bW hz rfl (x:= .ref TI) rfl ?_);refine aa (c9 Ge rfl ?_);show av _ _ (dD (.ref z) >>=_) _ _ _;refine aa (b_ free (fun fr s1 Mv=> ?_) fun _ _ x=>x);obtain⟨h₀,Rw,rfl,i_,xl⟩:=Mv;have CU:lP h₀ TO a b:=(i_.2 _ D.TOz).trans Kz;have vy:=eb h1 i_ D.i1z;have A7:=eb h2 i_ D.i2z;have pX:=et O2 i_ D1.1;have vw:=et Pl i_ D2.1;cases fr with
 | true=>
  simp only [if_true];refine aa (fE ?_);refine aa (bW xl rfl (x:= .ref TO) rfl ?_);refine aa (cf xl (by simp) fun h₁ rX iz=> ?_);refine aa ?_;simp only [MR,List.zipIdx_nil,cJ,eT];refine aa (aa (Bo ?_));show av _ _ (bZ (.ref i1) >>=_) _ _ _;cases hx:xs[k]? with
  | none=>
   refine aa (i3 hh (eb vy iz D.i1z) (et pX iz D1.1) hx fun sk e gc he=> ?_);obtain⟨oe,Pk,Rl⟩:=he;have Nm:=gc _ _ D.i1z.symm rX;have UZ:e≠z:=fun x=>by subst x; rw [Nm]at Pk; cases Pk; simp at Rl
   refine cf Nm (by simp) fun yT _ lq=>hE yT e (fun c o c1 _ c3 _ x=>(lq.2 c c1).trans (gc _ _ c3 ((iz.2 c c1).trans ((i_.2 c c1).trans x)))) ⟨oe,(lq.2 _ UZ).trans Pk,Rl⟩
  | some x=>
   have hy:ys[k]? =none:=by rcases Mt with h | h; rw [hx]at h; cases h; exact h
   refine aa (ju (eb vy iz D.i1z) (et pX iz D1.1) hx fun sk A5 gc=>ag ?_);have vr:lP sk TO a b:=(gc.2 _ D.TOi1).trans ((iz.2 _ D.TOz).trans CU);refine aa (c9 vr rfl ?_);refine aa (FY vr fun yT yR lq=> ?_);refine aa (FZ (ag ?_));refine aa (aa (Bo ?_));show av _ _ (bZ (.ref i2) >>=_) _ _ _;refine aa (i3 hh (eb (eb (eb A7 iz D.i2z) gc D.i12.symm) lq D.TOi2.symm) (et (et (et vw iz D2.1) gc D2.2.2.1) lq D2.2.1) hy fun pj e kL he=> ?_);obtain⟨oe,Pk,Rl⟩:=he;have Nu:yT.get? z=h₁.get? z:=by rw [lq.2 z D.TOz.symm,gc.2 z D.i1z.symm]
   rw [rX]at Nu;have A9:=kL _ _ D.i2z.symm Nu;have UZ:e≠z:=fun x=>by subst x; rw [A9]at Pk; cases Pk; simp at Rl
   refine cf A9 (by simp) fun mJ _ rY=>hE mJ e (fun c o c1 c2 c3 c4 x=>(rY.2 c c1).trans (kL _ _ c4 ((lq.2 c c2).trans ((gc.2 c c3).trans ((iz.2 c c1).trans ((i_.2 c c1).trans x)))))) ⟨oe,(rY.2 _ UZ).trans Pk,Rl⟩
 | false=>
  simp only [aZ,if_false];rw [<-eO];refine aa ?_;show av _ _ (forIn [au i1,au i2] _ _) _ _ _;simp only [cJ,eT];refine aa (aa (bP ?_));show av _ _ (bZ (.ref i1) >>=_) _ _ _;cases hx:xs[k]? with
  | none=>exact aa (i3 hh vy pX hx fun sk e gc he=>hE sk e (fun c o c1 _ c3 _ x=>gc _ _ c3 ((i_.2 c c1).trans x)) he)
  | some x=>
   have hy:ys[k]? =none:=by rcases Mt with h | h; rw [hx]at h; cases h; exact h
   refine aa (ju vy pX hx fun sk A5 gc=>ag (ag ?_));refine aa (aa (bP ?_));show av _ _ (bZ (.ref i2) >>=_) _ _ _;exact aa (i3 hh (eb A7 gc D.i12.symm) (et vw gc D2.2.2.1) hy fun pj e kL he=>hE pj e (fun c o c1 _ c3 c4 x=>kL _ _ c4 ((gc.2 c c3).trans ((i_.2 c c1).trans x))) he)
abbrev Sk(h:aY)(t1:ai):aY:=h.push {cls:= .type "tuple_iterator",data:= .fields #[.ref t1, .int 0 0]}
abbrev Sg(h:aY)(t1 t2:ai):aY:=(Sk h t1).push {cls:= .type "tuple_iterator",data:= .fields #[.ref t2, .int 0 0]}
abbrev Su(h:aY)(t1 t2:ai):aY:=(Sg h t1 t2).push {cls:= .type "tuple",data:= .seq #[.ref h.objs.size, .ref (Sk h t1).objs.size]}
abbrev Si(h:aY)(t1 t2:ai):aY:=(Su h t1 t2).push {cls:= .type "tuple",data:= .seq #[.none, .none]}
abbrev Pz(h:aY)(t1 t2:ai):aY:=(Si h t1 t2).push {cls:= .type "zip",data:= .fields #[.none, .bool false, .bool false, .ref (Sg h t1 t2).objs.size, .ref (Su h t1 t2).objs.size]}
theorem BP(t1 t2:ai)(xs ys:Array af):
  Meets (dH.«zip.__new__» ⟨[.type "zip", .ref t1, .ref t2], []⟩) (fun _ R s=>s.heap.IsTuple t1 xs/\s.heap.IsTuple t2 ys/\R (.ok (.ret (.ref (Si s.heap t1 t2).objs.size))) {s with heap:=Pz s.heap t1 t2}):=
 .of_wp fun prog w A R s h=>by
  obtain⟨hp,g,d,tk,os⟩:=s; obtain⟨Bw,zb,h⟩:=h;have Ke:=sub_zip;have Y9:Heap.IsTuple (Shared.heap ⟨hp,g,d,tk,os⟩) t1 xs:=Bw;have Bz:Heap.IsTuple (Shared.heap ⟨hp.push {cls:= .type "tuple_iterator",data:= .fields #[.ref t1, .int 0 0]},g,d,tk,os⟩) t2 ys:=by
   obtain⟨o,e,r⟩:=zb; exact⟨o,ah _ e,r⟩
  wp_walk using Kn Y9,Kn Bz
  exact⟨_,rfl,h⟩
theorem EH{t1 t2:ai}{xs ys:Array af}{Q:af->aj->Prop}(Bw:s.heap.IsTuple t1 xs)(zb:s.heap.IsTuple t2 ys)
  (h: ∀h',qw h' (s.heap.objs.size+4) (s.heap.objs.size+2) (s.heap.objs.size+3) s.heap.objs.size (s.heap.objs.size+1)->h'.IsTupleIter s.heap.objs.size t1 0->h'.IsTupleIter (s.heap.objs.size+1) t2 0->
   (∀c o,s.heap.get? c=some o->h'.get? c=some o)->Q (.ref (s.heap.objs.size+4)) {s with heap:=h'}):
  av (aC prog w) A (call (.type "zip") [.ref t1, .ref t2]) Q E s:=by
 refine callType_new PySem.F.called_zip (by decide) (PySem.F.typeCall_zip_2 _ _) (PySem.F.newCall_zip_2 _ _) (fun obj=>PySem.F.args_object_init_3 obj _ _) PySem.F.entry_zip_new (BP t1 t2 xs ys) ⟨Bw,zb, ?_⟩;have z1:(Sk s.heap t1).objs.size=s.heap.objs.size+1:=c8 ..;have z2:(Sg s.heap t1 t2).objs.size=s.heap.objs.size+2:=by rw [c8,z1]
 have z3:(Su s.heap t1 t2).objs.size=s.heap.objs.size+3:=by rw [c8,z2]
 have z4:(Si s.heap t1 t2).objs.size=s.heap.objs.size+4:=by rw [c8,z3]
 have g5:(Pz s.heap t1 t2).get? (Si s.heap t1 t2).objs.size=some _:=aw _ rfl;have g4:(Pz s.heap t1 t2).get? (Su s.heap t1 t2).objs.size=some _:=ah _ (aw _ rfl);have g3:(Pz s.heap t1 t2).get? (Sg s.heap t1 t2).objs.size=some _:=ah _ (ah _ (aw _ rfl));have g2:(Pz s.heap t1 t2).get? (Sk s.heap t1).objs.size=some _:=ah _ (ah _ (ah _ (aw _ rfl)));have g1:(Pz s.heap t1 t2).get? s.heap.objs.size=some _:=ah _ (ah _ (ah _ (ah _ (aw _ rfl))));show _/\_;rw [z2,z3,z4]at g5;rw [z1,z2]at g3;rw [z3]at g4;rw [z1]at g2;rw [z4];exact⟨⟨_,g5,rfl⟩,h _ ⟨⟨_,_,g5, .inl rfl⟩,g3,_,_,g4⟩ ⟨_,g1,rfl,rfl⟩ ⟨_,g2,rfl,rfl⟩ fun c o x=>ah _ (ah _ (ah _ (ah _ (ah _ x))))⟩
end
end Z
namespace Z
open PySem PySem.Spec PyProof.Rows L2
section
variable {X:Cx}{pins:List (ai×Obj)}{σ:St}{H H':Hp}{s:aj}{h':aY}{fp:List ai}
theorem AH{t':Nat}(I:Inv X pins σ H s)(hf: ∀b∈fp,ko X pins H b)(k: ∀b u,b∉fp->s.heap.get? b=some u->h'.get? b=some u)(hs:bQ H H')(hn: ∀b o,s.heap.get? b=some o->H b=none->H' b=none)
  (fb:qh X.prog X.w H' h'):Inv X pins σ H' {s with heap:=h',toks:=t'}:=by
 refine I.step (g':=s.gens) (d':=s.drawn) (ch:=fp) (fun b hb=> ?_) (fun b o _ _ hc e _=>k b o hc e) (fun b o _ _ hc e _=>⟨o.slots,k b o hc e⟩) (fun b o _ e n=>hn b o e n)
  (fun b o hc e=>⟨o,k b o hc e⟩) (fun b xs e=>hs b _ e) (fun b o u e=>hs b _ e) (fun b ps e=>⟨#[],by rw [hs b _ e]; simp⟩) (fun m hm=> ?_) fb I.bare
 ·obtain⟨f0,f1,f2,f3,f4,f5⟩:=hf b hb;exact⟨f3,f1,f4,f5⟩
 ·obtain⟨o,es,ep,ho,r⟩:=hm;exact⟨o,es,ep,k _ o (fun z=>(hf _ z).2.1 rfl) ho,r⟩
theorem Jp(I:Inv X pins σ H s)(hf: ∀b∈fp,ko X pins H b)(k: ∀b u,b∉fp->s.heap.get? b=some u->h'.get? b=some u):qh X.prog X.w H h':=fun b u e=>by
 have nf: ∀c v,H c=some v->c∉fp:=fun c v e z=>by rw [(hf c z).1]at e; cases e
 refine(I.fb b u e).stay (fun c v hc q=>k c v ?_ q) (fun _ q=>q) fun _ _ q=>q
 rcases hc with z | z
 ·rw [z]; exact nf b u e
 ·exact nf c _ z
theorem HZ{T:ai}{o:HO}(I:Inv X pins σ H s)(hf: ∀b∈fp,ko X pins H b)(k: ∀b u,b∉fp->s.heap.get? b=some u->h'.get? b=some u)(hT:H T=none)(new:fJ X.prog X.w (upd H T o) h' T o):qh X.prog X.w (upd H T o) h':=fun b u e=>by
 by_cases hb:b=T
 ·subst hb;rw [bI]at e; cases e;exact new
 ·rw [b8 hb]at e;have nf: ∀c v,H c=some v->c∉fp:=fun c v e z=>by rw [(hf c z).1]at e; cases e
  refine(I.fb b u e).stay (fun c v hc q=>k c v ?_ q) (fun c q=>bJ hT c _ q) fun c _ q=>bJ hT c _ q
  rcases hc with z | z
  ·rw [z]; exact nf b u e
  ·exact nf c _ z
theorem xW{a b:ai}{xs:List V}(I:Inv X pins σ H s)(hf:ko X pins H b)(h:k9 X.K H a xs):a≠b:=fun e=>by
 subst e
 rcases h with(h | ⟨o,h⟩) | ⟨o,its,n,hk,_⟩
 ·rw [hf.1]at h; cases h
 ·rw [hf.1]at h; cases h
 ·have hb:=I.ok.mod.Ga a o hk
  rcases hf.2.2.2.1 with z | z
  ·exact I.ok.B0 a o hb z
  ·exact absurd (bB (az hb) (bg I.ok.Hk z)) (fv _)
end
def Wi(K:Frag)(t1 t2:ai):It:=
  ⟨fun i H=> ∃xs ys x y,k9 K H t1 xs/\k9 K H t2 ys/\xs[i]? =some x/\ys[i]? =some y,
   fun i H v H'=> ∃T x y,v= .ref T/\H T=none/\H'=upd H T (.tup [x,y])/\(∀xs,k9 K H t1 xs->xs[i]? =some x)/\ ∀ys,k9 K H t2 ys->ys[i]? =some y,
   fun i H=> ∃xs ys,k9 K H t1 xs/\k9 K H t2 ys/\(xs.length<=i\/ys.length<=i)⟩
section
variable {prog:aH}{w:aW}{A:bA}{E:af->aj->Prop}{s:aj}
theorem AU{z TI TO i1 i2 t1 t2:ai}{k:Nat}{xs ys:Array af}{x y:af}{Q:Option af->aj->Prop}(D:PD z TI TO i1 i2)(D1:t1≠z/\t1≠TO/\t1≠i1/\t1≠i2)(D2:t2≠z/\t2≠TO/\t2≠i1/\t2≠i2)(hZ:qw s.heap z TI TO i1 i2)
  (h1:s.heap.IsTupleIter i1 t1 k)(h2:s.heap.IsTupleIter i2 t2 k)(O2:s.heap.IsTuple t1 xs)(Pl:s.heap.IsTuple t2 ys)(hx:xs[k]? =some x)(hy:ys[k]? =some y)
  (hQ: ∀h',qw h' z TI TO i1 i2->h'.IsTupleIter i1 t1 (k+1)->h'.IsTupleIter i2 t2 (k+1)->lP h' s.heap.objs.size x y->
   (∀c o,c≠z->c≠TO->c≠i1->c≠i2->s.heap.get? c=some o->h'.get? c=some o)->Q (some (.ref s.heap.objs.size)) {s with heap:=h'}):av (aC prog w) A (jb (.ref z)) Q E s:=by
 obtain⟨⟨f0,f1,hz,_⟩,_⟩:=id hZ;have hT:s.TypeIs (.ref z) "zip":=⟨_,hz,rfl⟩;unfold jb;exact aa (mQ (c6 (name:=iA "__next__") hT oZ
  (bU oZ hT F.entry_zip_next (ED D D1 D2 hZ h1 h2 O2 Pl hx hy fun h' a1 a2 a3 a4 a5=>ag (hQ h' a1 a2 a3 a4 a5)) (F.args_zip_next_1 _))))
theorem r6{z TI TO i1 i2 t1 t2:ai}{k:Nat}{xs ys:Array af}{Q:Option af->aj->Prop}(hh:A.handled=none)(D:PD z TI TO i1 i2)(D1:t1≠z/\t1≠TO/\t1≠i1/\t1≠i2)(D2:t2≠z/\t2≠TO/\t2≠i1/\t2≠i2)(hZ:qw s.heap z TI TO i1 i2)
  (h1:s.heap.IsTupleIter i1 t1 k)(h2:s.heap.IsTupleIter i2 t2 k)(O2:s.heap.IsTuple t1 xs)(Pl:s.heap.IsTuple t2 ys)(Mt:xs[k]? =none\/ys[k]? =none)
  (hQ: ∀h',(∀c o,c≠z->c≠TO->c≠i1->c≠i2->s.heap.get? c=some o->h'.get? c=some o)->Q none {s with heap:=h'}):av (aC prog w) A (jb (.ref z)) Q E s:=by
 obtain⟨⟨f0,f1,hz,_⟩,_⟩:=id hZ;have hT:s.TypeIs (.ref z) "zip":=⟨_,hz,rfl⟩;unfold jb;refine aa (mQ (c6 (name:=iA "__next__") hT oZ
  (bU oZ hT F.entry_zip_next (Iu hh D D1 D2 hZ h1 h2 O2 Pl Mt fun h' e hk he=> ?_) (F.args_zip_next_1 _))))
 obtain⟨o,ho,hc⟩:=he;refine aa (fy (T:="StopIteration") (b:=true) ⟨o,ho,hc⟩ y8 ?_);exact ag (hQ _ hk)
theorem rS{z TI TO i1 i2:ai}{Q:af->aj->Prop}(hZ:qw s.heap z TI TO i1 i2)(h:Q (.ref z) s):av (aC prog w) A (vA (.ref z)) Q E s:=by
 obtain⟨⟨f0,f1,hz,_⟩,_⟩:=id hZ;have hT:s.TypeIs (.ref z) "zip":=⟨_,hz,rfl⟩;refine jG hT F.slot_zip_iter (bU F.slot_zip_iter hT F.entry_zip_iter ?_ (F.args_zip_iter_1 _));show av _ _ (ret (.ref z)) _ _ s;exact ag ⟨_,rfl,"zip",_,hT,oZ.lookup,h⟩
end
theorem HS{P:aH}{w:aW}{K:Frag}{x:Str}{px:Pos}{z TI TO i1 i2 t1 t2:ai}(D:PD z TI TO i1 i2):
  Turn P w K (.Name x px) (Wi K t1 t2) [z,TI,TO,i1,i2] z (fun i h=>qw h z TI TO i1 i2/\h.IsTupleIter i1 t1 i/\h.IsTupleIter i2 t2 i) where
 mem:=by simp
 obj:=fun i h ⟨⟨⟨f0,f1,hz,_⟩,Ge,a,b,Kz⟩,h1,h2⟩ c hc=>by
  have QS:c=z\/c=TI\/c=TO\/c=i1\/c=i2:=by simpa using hc
  rcases QS with rfl | rfl | rfl | rfl | rfl
  ·exact⟨_,hz,fun v e=>by cases e⟩
  ·exact⟨_,Ge,fun v e=>by cases e⟩
  ·exact⟨_,Kz,fun v e=>by cases e⟩
  ·obtain⟨o,e,c,d⟩:=h1; exact⟨o,e,fun v z=>by rw [d]at z; cases z⟩
  ·obtain⟨o,e,c,d⟩:=h2; exact⟨o,e,fun v z=>by rw [d]at z; cases z⟩
 keep:=fun i h h' ⟨⟨⟨f0,f1,hz,q⟩,Ge,a,b,Kz⟩,h1,h2⟩ k=>
  ⟨⟨⟨f0,f1,k z (by simp) _ hz,q⟩,k TI (by simp) _ Ge,a,b,k TO (by simp) _ Kz⟩,h1.at fun o e=>k i1 (by simp) o e,h2.at fun o e=>k i2 (by simp) o e⟩
 item:=by
  intro X hP hw hK hc i pins s σ H E I hf ⟨hZ,h1,h2⟩ hg;subst hP hw hK;obtain⟨xs,ys,x0,y0,Ny,NG,hx,hy⟩:=hg;obtain⟨J4,SU,p1,Xc⟩:=I.tuple Ny;obtain⟨iI,SI,p2,Xd⟩:=I.tuple NG;obtain⟨u,hu,ru⟩:=SU.get hx;obtain⟨v,hv,rv⟩:=SI.get hy;have n1: ∀b∈ [z,TI,TO,i1,i2],t1≠b:=fun b hb=>xW I (hf b hb) Ny;have n2: ∀b∈ [z,TI,TO,i1,i2],t2≠b:=fun b hb=>xW I (hf b hb) NG;refine AU D ⟨n1 _ (by simp),n1 _ (by simp),n1 _ (by simp),n1 _ (by simp)⟩ ⟨n2 _ (by simp),n2 _ (by simp),n2 _ (by simp),n2 _ (by simp)⟩ hZ h1 h2 (show s.heap.IsTuple t1 J4.toArray from p1) (show s.heap.IsTuple t2 iI.toArray from p2) (x:=u) (y:=v) (by simpa using hu) (by simpa using hv) fun h' a1 a2 a3 a4 k=> ?_;have kk: ∀b o,b∉ [z,TI,TO,i1,i2]->s.heap.get? b=some o->h'.get? b=some o:=fun b o hb e=>k b o (fun q=>hb (by simp [q])) (fun q=>hb (by simp [q])) (fun q=>hb (by simp [q])) (fun q=>hb (by simp [q])) e;have I1:Inv X pins σ (upd H s.heap.objs.size (.tup [x0,y0])) {s with heap:=h'}:=AH (t':=s.toks) I hf kk (bJ I.fresh) (fun b o e n=>by rw [b8 (aN (az e))]; exact n)
   (HZ I hf kk I.fresh ⟨by show 2<=sizeLine; decide, [u,v], .cons ru (.cons rv .nil),⟨_,a4,rfl,_,rfl⟩⟩)
  refine⟨_,rfl,ag ⟨.ref s.heap.objs.size,_,I1,rfl,⟨s.heap.objs.size,x0,y0,rfl,I.fresh,rfl,fun zs hq=>by rw [I.tuple_inj hq Ny]; exact hx,fun zs hq=>by rw [I.tuple_inj hq NG]; exact hy⟩,⟨a1,a2,a3⟩,fun b hb=> ?_⟩⟩;have Va:b < s.heap.objs.size:=by
   have ki:b=z\/b=TI\/b=TO\/b=i1\/b=i2:=by simpa using hb
   obtain⟨⟨f0,f1,hz,_⟩,Ge,a,b,Kz⟩:=hZ;obtain⟨o1,e1,_⟩:=h1;obtain⟨o2,e2,_⟩:=h2
   rcases ki with rfl | rfl | rfl | rfl | rfl
   ·exact az hz
   ·exact az Ge
   ·exact az Kz
   ·exact az e1
   ·exact az e2
  rw [b8 (aN Va)];exact(hf b hb).1
 done:=by
  intro X hP hw hK hc i pins s σ H E I hf ⟨hZ,h1,h2⟩ hg;subst hP hw hK;obtain⟨xs,ys,Ny,NG,hx⟩:=hg;obtain⟨J4,SU,p1,Xc⟩:=I.tuple Ny;obtain⟨iI,SI,p2,Xd⟩:=I.tuple NG;have n1: ∀b∈ [z,TI,TO,i1,i2],t1≠b:=fun b hb=>xW I (hf b hb) Ny;have n2: ∀b∈ [z,TI,TO,i1,i2],t2≠b:=fun b hb=>xW I (hf b hb) NG;have l1:=SU.length;have l2:=SI.length;refine r6 (I.ok.hd hc) D ⟨n1 _ (by simp),n1 _ (by simp),n1 _ (by simp),n1 _ (by simp)⟩ ⟨n2 _ (by simp),n2 _ (by simp),n2 _ (by simp),n2 _ (by simp)⟩ hZ h1 h2 (show s.heap.IsTuple t1 J4.toArray from p1) (show s.heap.IsTuple t2 iI.toArray from p2) ?_ fun h' k=> ?_
  ·rcases hx with hx | hx
   ·exact .inl (by simp; omega)
   ·exact .inr (by simp; omega)
  have kk: ∀b o,b∉ [z,TI,TO,i1,i2]->s.heap.get? b=some o->h'.get? b=some o:=fun b o hb e=>k b o (fun q=>hb (by simp [q])) (fun q=>hb (by simp [q])) (fun q=>hb (by simp [q])) (fun q=>hb (by simp [q])) e;exact⟨rfl,AH (t':=s.toks) I hf kk (bQ.refl _) (fun b o e n=>n) (Jp I hf kk)⟩
 self:=fun _ _ _ _ _ st h=>rS st.1 h
def Tv(K:Frag)(ta:TA):TI:=fun σ H R=>ta σ H fun vs H1=> ∃t1 t2,vs= [.ref t1, .ref t2]/\(∃xs,k9 K H1 t1 xs)/\(∃ys,k9 K H1 t2 ys)/\R (Wi K t1 t2) H1
section
variable {X:Cx}{ρ:fB}{e a b:Expr}{d:D}{ds es:List D}{p pos px:Pos}{x:Str}
theorem Fo:eA "zip"=some (.type "zip"):=by decide +kernel
theorem N5{ta:TA}(hg:Gl X "zip")(hm:X.mg "zip"=none)(ha:PA X [a,b] ta)(hs:ax [a,b] X.env= [(false,bV a X.env),(false,bV b X.env)]:=by rfl)(By:ax [b] X.env= [(false,bV b X.env)]:=by rfl):
  PI X (.Name x px) (.Call (.Name "zip" p) [a,b] [] pos) (Tv X.K ta):=by
 intro pins s σ H R I h;refine Call_ (rd I hg hm Fo (kY (fx (ha pos pins s σ H _ I h) fun us s1 ⟨vs,H1,I1,r1,q1⟩=> ?_) (by rw [hs,By]) (by rw [By]; rfl)));obtain⟨t1,t2,e,⟨xs,Ny⟩,⟨ys,NG⟩,q⟩:=q1;subst e;cases r1 with
 | cons r rr=>
  cases rr with
  | cons r' rr=>
   cases rr;cases r;cases r';obtain⟨J4,SU,p1,Xc⟩:=I1.tuple Ny;obtain⟨iI,SI,p2,Xd⟩:=I1.tuple NG;refine EH (show s1.heap.IsTuple t1 J4.toArray from p1) (show s1.heap.IsTuple t2 iI.toArray from p2) fun h' a1 a2 a3 k=> ?_;refine rS (s:={s1 with heap:=h'}) a1 ?_;have D:PD (s1.heap.objs.size+4) (s1.heap.objs.size+2) (s1.heap.objs.size+3) s1.heap.objs.size (s1.heap.objs.size+1):=by
    constructor <;> first | exact aN (by show(_:Nat) < _; omega) | exact b9 (by show(_:Nat) < _; omega)
   refine⟨_, [s1.heap.objs.size+4,s1.heap.objs.size+2,s1.heap.objs.size+3,s1.heap.objs.size,s1.heap.objs.size+1],_,_,H1,rfl,I1.kept (t':=s1.toks) k,HS D,⟨a1,a2,a3⟩,fun b hb=> ?_,q⟩;have ki:b=s1.heap.objs.size+4\/b=s1.heap.objs.size+2\/b=s1.heap.objs.size+3\/b=s1.heap.objs.size\/b=s1.heap.objs.size+1:=by simpa using hb
   have hle:s1.heap.objs.size<=b:=by rcases ki with rfl | rfl | rfl | rfl | rfl <;> (show(_:Nat)<=_; omega)
   exact I1.fpOk hle (I1.fb.fresh hle)
def Hy(ds es:List D):List D:=(ds.zip es).map fun p=>D.tup [p.1,p.2]
theorem iU.zipT(hg:Gl X "zip")(hm:X.mg "zip"=none)(h1:ar X ρ a (.tup ds))(h2:ar X ρ b (.tup es))(hs:ax [a,b] X.env= [(false,bV a X.env),(false,bV b X.env)]:=by rfl)(By:ax [b] X.env= [(false,bV b X.env)]:=by rfl):
  iU X ρ (.Name x px) (.Call (.Name "zip" p) [a,b] [] pos) (Hy ds es):=fun M0 H0 γ α σ H R r k=>(N5 hg hm xV hs By).to ((aU.cons h1 (aU.cons h2 aU.nil By) (by rw [hs,By])) M0 H0 γ α σ H _ r fun vs H1 s x=>by
 obtain⟨v1,r1,rfl,e1,v2,r2,rfl,e2,e3⟩:=x;cases e3;obtain⟨t1,xs,rfl,ZL,dn1⟩:=id e1;obtain⟨t2,ys,rfl,PX,Gg⟩:=id e2;refine⟨t1,t2,rfl,⟨xs,ZL⟩,⟨ys,PX⟩,k _ H1 [(.tup ds, .ref t1),(.tup es, .ref t2)] s (fun p hp=> ?_) fun M H2 hg=> ?_⟩
 ·have qU:p=(.tup ds, .ref t1)\/p=(.tup es, .ref t2):=by simpa using hp
  rcases qU with rfl | rfl
  ·exact e1
  ·exact e2
 obtain⟨q1,BA,Z9,Pq,Rt⟩:=hg _ (dO);obtain⟨q2,U7,Y3,Pr,QZ⟩:=hg _ (c7 _ (dO));cases Z9; cases Y3;have L1:=Rt.len;have L2:=QZ.len;refine⟨fun i d hi=> ?_,⟨BA,U7,Pq,Pr, ?_⟩⟩
 ·unfold Hy at hi;rw [aA]at hi;cases e:(ds.zip es)[i]? with
  | none=>rw [e]at hi; cases hi
  | some pq=>
   rw [e]at hi;cases hi;obtain⟨g1,g2⟩:=List.getElem?_zip_eq_some.mp e;obtain⟨x,hx,dx⟩:=Rt.get g1;obtain⟨y,hy,dy⟩:=QZ.get g2;refine⟨⟨BA,U7,x,y,Pq,Pr,hx,hy⟩,fun v H' hv=> ?_⟩;obtain⟨T,x',y',rfl,hT,rfl,f1,f2⟩:=hv;have e1:=f1 BA Pq;have e2:=f2 U7 Pr;rw [hx]at e1; cases e1;rw [hy]at e2; cases e2;exact⟨bJ hT,T,_,rfl,k9.of bI,_,_,rfl,dx.same (bJ hT),_,_,rfl,dy.same (bJ hT),rfl⟩
 ·unfold Hy;rw [ae,cw];omega)
end
def mE:List Str->List D->Str->Option D
 | n::ns,d::ds,f=>if f==n then some d else mE ns ds f
 | _,_,_=>none
theorem Dz{K:Frag}{M:MP}{H:Hp}{f:Str}{d:D}: ∀{ns:List Str} {ds:List D} {fs:List (Str×V)},fs.map (·.1)=ns->cU K M H ds (fs.map (·.2))->mE ns ds f=some d-> ∃v,fs.lookup f=some v/\Dn K M H d v
 | [],_,_,_,_,h=>by simp [mE]at h
 | n::ns, [],_,_,_,h=>by simp [mE]at h
 | n::ns,d'::ds, [],e,_,_=>by cases e
 | n::ns,d'::ds,(k,x)::fs,e,⟨v,r,e2,h1,h2⟩,h=>by
  have ek:k=n:=by injection e
  have en:fs.map (·.1)=ns:=by injection e
  have ev:x=v:=by injection e2
  have er:fs.map (·.2)=r:=by injection e2
  subst ek ev er;unfold mE at h;rw [iC];cases hb:f==k with
  | true=>rw [hb]at h; cases h; exact⟨x,rfl,h1⟩
  | false=>rw [hb]at h; exact Dz en h2 h
theorem Az{f:Str}: ∀{ns:List Str} {fs:List (Str×V)},fs.map (·.1)=ns->ns.all (fun n=> !(f==n))=true->fs.lookup f=none
 | _, [],_,_=>rfl
 | ns,(k,x)::fs,e,h=>by
  subst e;rw [a9,List.all_cons,bN]at h;rw [iC];cases hb:f==k with
  | true=>rw [hb]at h; exact absurd h.1 (by decide)
  | false=>exact Az rfl h.2
structure PH(P:aH)(w:aW)(K:Frag)(mg:Str->Option af)(base:aY)(CX:k_)(k:Nat)(C:ai)(m:Str){ι:Type}(args:ι->List D)(pre:ι->Prop)(res:ι->Except ai D):Prop where
 ex: ∃(f:ai) (fd:bb) (ps:List Str),mZ P w K mg base CX k f fd ps (nX K args pre res)/\Meth K C m f/\Binds K fd ps []
section
variable {X:Cx}{ρ:fB}{M0:MP}{H0:Hp}{o e:Expr}{es:List Expr}{d:D}{ds:List D}{ns:List Str}{C:ai}{f m:Str}{pos p apos:Pos}{CX:k_}{k:Nat}{x:Str}{ι:Type}{args:ι->List D}{pre:ι->Prop}{res:ι->Except ai D}
theorem ar.fld(c:BN X.K C)(n:jn X.K C f)(h:ar X ρ e (.ins C ns ds))(hf:mE ns ds f=some d)(hb:kj e f X.env (bV e X.env)=bV e X.env:=by rfl):ar X ρ (.Attribute e f pos) d:=fun M0 H0 γ α σ H Q R kk=>
 (OF iE hb).to (h M0 H0 γ α σ H _ R fun v H1 s x=>by
  obtain⟨a,dx,fs,rfl,hH,hn,dn⟩:=x;obtain⟨v,l,dv⟩:=Dz hn dn hf;exact⟨a,C,dx,fs,v,rfl,hH,c,n,l,kk v H1 s dv⟩)
theorem ar.meth0{pl:Sem Bool}(c:BN X.K C)(F:PH X.prog X.w X.K X.mg X.base CX k C m args pre res)(hr:eW k X.A)(hx:Passes CX X E0)(i:ι)(h:ar X ρ o (.ins C ns ds))(hi:args i= [.ins C ns ds])(hp:pre i)(md:res i= .ok d)(hn:ns.all (fun n=> !(m==n))=true:=by decide +kernel)
  (ht:bV (.Call (.Attribute o m apos) [] [] pos) X.env=(do
   let ov<-bV o X.env
   standAt apos.atName
   let(f,first)<-kX [ov] (getMethod ov m pl)
   callWith pos f first (fc pos (ax [] X.env)) (backToKw pos (FQ [] X.env))):=by rfl):ar X ρ (.Call (.Attribute o m apos) [] [] pos) d:=fun M0 H0 γ α σ H Q R kk=>by
 obtain⟨f,fd,ps,F,hm,hb⟩:=F.ex;refine(GA iE c hm F hr hb .nil hx ht).to (h M0 H0 γ α σ H _ R fun v H1 s1 dn=> ?_);obtain⟨a,dx,fs,rfl,hH,PN,FH⟩:=id dn;refine⟨a,dx,fs,rfl,hH,Az PN hn, ?_⟩;refine⟨i,MM M0 ρ α,i6 R s1,by rw [hi]; exact⟨_,_,rfl,dn,rfl⟩,hp,fun d' e v H2 s2 dn=>by rw [md]at e; cases e; exact kk v H2 (s1.trans s2) dn,fun C e=>by rw [md]at e; cases e⟩
end
section
variable {P:aH}{w:aW}{K:Frag}{mg:Str->Option af}{base:aY}{CX:k_}{k:Nat}{x qual:Str}{st:cF}{f C:ai}{fd:bb}{N ps:List Str}{ι:Type}{args:ι->List D}{pre:ι->Prop}{res:ι->Except ai D}
theorem xI(F:ji K x qual st f fd)(S:bM N ps (aL st))(hm:Meth K C x f)(hb:Binds K fd ps [])(hl: ∀i,(args i).length=ps.length)
  (body: ∀(dX:af) (A:bA) (outer:List Env) (s:aj) (H:Hp) (E:XK) (i:ι) (M0:MP),pre i->eW k (A.deeper (mM qual (aL st) s.heap.objs.size f dX))->
   ∃d,res i= .ok d/\WS (pb CX P w K mg base N qual (aL st) f dX A outer s H E).nox M0 H (bo st) (uh N (args i)) {N:=fun _=>d= .non,R:=fun d'=>d'=d}):PH P w K mg base CX (k+1) C x args pre res:=
 ⟨f,fd,ps,DE F S hl body,hm,hb⟩
end
def eV(H:Hp)(x:ai):Hp:=fun b=>if b=x then none else H b
theorem qz{H:Hp}{x:ai}:eV H x x=none:=if_pos rfl
theorem fH{H:Hp}{x:ai}:bQ (eV H x) H:=fun b o e=>by
 unfold eV at e
 split at e
 ·cases e
 ·exact e
def D.noI:Nat->D->Prop
 | _, .non=>True
 | _, .bl _=>True
 | _, .int _=>True
 | _, .str _=>True
 | n+1, .tup ds=> ∀d∈ds,D.noI n d
 | n+1, .lst ds=> ∀d∈ds,D.noI n d
 | _,_=>False
theorem xU{K:Frag}{M:MP}{H H':Hp}: ∀{ds:List D} {xs:List V},(∀d∈ds, ∀v,Dn K M H d v->Dn K M H' d v)->cU K M H ds xs->cU K M H' ds xs
 | [],_,_,r=>r
 | d::ds,_,h,⟨v,t,e,h1,h2⟩=>⟨v,t,e,h d (.head _) v h1,xU (fun x hx=>h x (.tail _ hx)) h2⟩
theorem Dn.noI{K:Frag}{M:MP}{H H':Hp}(kk: ∀b o,H b=some o->(∀C dx fs,o≠ .ins C dx fs)->H' b=some o): ∀(n:Nat) {d:D} {v:V},D.noI n d->Dn K M H d v->Dn K M H' d v:=by
 intro n
 induction n with
 | zero=>intro d v hf h; cases d <;> first | exact h | exact hf.elim
 | succ n ih=>
  intro d v hf h;cases d with
  | tup ds=>
   obtain⟨a,xs,e,s,r⟩:=h;refine⟨a,xs,e, ?_,xU (fun d hd v=>ih (hf d hd)) r⟩
   rcases s with(s | ⟨o,s⟩) | s
   ·exact .inl (.inl (kk _ _ s (by intros; intro z; cases z)))
   ·exact .inl (.inr ⟨o,kk _ _ s (by intros; intro z; cases z)⟩)
   ·exact .inr s
  | lst ds=>
   obtain⟨a,xs,e,s,r⟩:=h;refine⟨a,xs,e, ?_,xU (fun d hd v=>ih (hf d hd)) r⟩
   rcases s with⟨s | ⟨o,s⟩,m⟩ | s
   ·exact .inl ⟨.inl (kk _ _ s (by intros; intro z; cases z)),m⟩
   ·exact .inl ⟨.inr ⟨o,kk _ _ s (by intros; intro z; cases z)⟩,m⟩
   ·exact .inr s
  | non=>exact h
  | bl _=>exact h
  | int _=>exact h
  | str _=>exact h
  | _=>exact hf.elim
theorem GQ{H:Hp}{x C dx:ai}{fs fs':List (Str×V)}(hx:H x=some (.ins C dx fs)): ∀b o,H b=some o->(∀C dx fs,o≠ .ins C dx fs)->upd H x (.ins C dx fs') b=some o:=fun b o e n=>by
 by_cases hb:b=x
 ·subst hb;rw [hx]at e; cases e;exact absurd rfl (n _ _ _)
 ·rw [b8 hb]; exact e
theorem Rep.ins{K:Frag}{M0:MP}{H0 H:Hp}{α:Nat->ai}{ρ:fB}{σ:St}{x C dx:ai}{fs fs':List (Str×V)}(r:Rep K M0 H0 [] α ρ σ H)(h0:H0 x=none)(hx:H x=some (.ins C dx fs))(hi: ∀s∈ρ,s= .un\/ ∃d,s= .im d/\D.noI 9 d):Rep K M0 H0 [] α ρ σ (upd H x (.ins C dx fs')):=by
 have O5: ∀(i:Nat) (ds:List D),ρ[i]? =some (.mu ds)->False:=fun i ds e=>by
  rcases hi _ (aR e)with z | ⟨d,z,_⟩ <;> cases z
 refine⟨fM r.same h0,r.old,r.inj,fun i d e=> ?_,fun i ds e=>(O5 i ds e).elim,(fun p hp=>by cases hp),r.len⟩;obtain⟨v,h1,h2⟩:=r.im i d e
 rcases hi _ (aR e)with z | ⟨d',z,n⟩
 ·cases z
 ·cases z;exact⟨v,h1,Dn.noI (GQ hx) 9 n h2⟩
section
variable {X:Cx}{ρ:fB}{M0:MP}{H0 H:Hp}{γ:List (D×V)}{α:Nat->ai}{σ:St}{En:Ends}{c e:Expr}{d:D}{s1:List cF}{pos pos' p:Pos}{x C dx:ai}{f y:Str}{fs:List (Str×V)}
theorem t_(h:cg X ρ c false)(R:Rep X.K M0 H0 γ α ρ σ H)(k: ∀H',bQ H H'->En.nx σ H'):tS X (.If c s1 [] pos) En σ H:=
 (DS IC gr gr).to (h M0 H0 γ α σ H _ R fun H1 s=>uE (s9.to (k H1 s)))
theorem Ct(i:Nat)(hN:X.N[i]? =some y)(hv:yn X.env.scope y)(CK:σ[i]? =some (some (.ref x)))(cl:BN X.K C)(n:jn X.K C f)(hl:fs.length < 1000)(h:ar X ρ e d)(R:Rep X.K M0 H0 γ α ρ σ H)(hx:H x=some (.ins C dx fs))
  (k: ∀v H1,bQ H H1->Dn X.K (MM M0 ρ α) H1 d v->En.nx σ (upd H1 x (.ins C dx (gG f v fs))))(hs:cu e (some (.Attribute (.Name y p) f pos')) pos.line X.env=pure false:=by rfl)(hd:(y==("__debug__":Str))=false:=by decide)(kc:(y==("__classdict__":Str))=false:=by decide):
  tS X (.Assign [.Attribute (.Name y p) f pos'] e pos) En σ H:=
 (Hx (lC hN hv hd kc) iE hs).to (h M0 H0 γ α σ H _ R fun v H1 s dn=>⟨_,CK,x,C,dx,fs,rfl,s _ _ hx,cl,n,hl,k v H1 s dn⟩)
theorem Lj{W:D->Prop}(i:Nat)(hN:X.N[i]? =some y)(hv:yn X.env.scope y)(CK:σ[i]? =some (some (.ref x)))(cl:BN X.K C)(n:jn X.K C f)(hl:fs.length < 1000)(h:Kv X ρ e W)(R:Rep X.K M0 H0 γ α ρ σ H)(hx:H x=some (.ins C dx fs))
  (k: ∀d v H1,W d->bQ H H1->Dn X.K (MM M0 ρ α) H1 d v->En.nx σ (upd H1 x (.ins C dx (gG f v fs))))(hs:cu e (some (.Attribute (.Name y p) f pos')) pos.line X.env=pure false:=by rfl)(hd:(y==("__debug__":Str))=false:=by decide)(kc:(y==("__classdict__":Str))=false:=by decide):
  tS X (.Assign [.Attribute (.Name y p) f pos'] e pos) En σ H:=
 (Hx (lC hN hv hd kc) iE hs).to (h M0 H0 γ α σ H _ R fun d v H1 hd s dn=>⟨_,CK,x,C,dx,fs,rfl,s _ _ hx,cl,n,hl,k d v H1 hd s dn⟩)
end
def TX(K:Frag)(C:ai)(ns:List Str){ι:Type}(args:ι->List D)(pre:ι->Prop)(res:ι->List D->Prop):Sp:=fun vs H Q E=>
 ∃(i:ι) (M0:MP) (x dx:ai) (us:List V),vs= .ref x::us/\H x=some (.ins C dx [])/\(∀a,M0 a->eV H x a≠none)/\cU K M0 H (args i) us/\pre i/\
  ∀ds fs H',res i ds->bQ (eV H x) H'->H' x=some (.ins C dx fs)->fs.map (·.1)=ns->cU K M0 H' ds (fs.map (·.2))->Q .non H'
structure TH(P:aH)(w:aW)(K:Frag)(mg:Str->Option af)(base:aY)(CX:k_)(k:Nat)(x:Str)(C:ai)(ns:List Str){ι:Type}(args:ι->List D)(pre:ι->Prop)(res:ι->List D->Prop):Prop where
 ex: ∃(f:ai) (fd:bb) (ps:List Str),mZ P w K mg base CX k f fd ps (TX K C ns args pre res)/\Mk K C f/\mg x=some (.ref C)/\Binds K fd ps []
section
variable {X:Cx}{ρ:fB}{e:Expr}{es:List Expr}{C:ai}{x:Str}{ns:List Str}{pos p:Pos}{CX:k_}{k:Nat}{ι:Type}{args:ι->List D}{pre:ι->Prop}{res:ι->List D->Prop}
theorem Kv.make(F:TH X.prog X.w X.K X.mg X.base CX k x C ns args pre res)(hr:eW (k+1) X.A)(hx:Passes CX X E0)(hg:Gl X x)(i:ι)(ha:aU X ρ (e::es) (args i))(hp:pre i)(p9:(x==("__debug__":Str))=false:=by decide)
  (he:ax (e::es) X.env=(false,bV e X.env)::ax es X.env:=by rfl)(hpl:(fc pos (ax es X.env)).any (·.1)=false:=by rfl):Kv X ρ (.Call (.Name x p) (e::es) [] pos) (fun d=> ∃ds,d= .ins C ns ds/\res i ds):=fun M0 H0 γ α σ H Q R kk=>by
 obtain⟨f,fd,ps,F,M,hm,hb⟩:=F.ex;refine(Lx M F hr hg hm hb .nil hx xV p9 he hpl).to (ha M0 H0 γ α σ H _ R fun vs H1 s1 d1=>fun y dy n1 n2 ne=> ?_);rw [bz];have sm:bQ H1 (upd (upd H1 dy (.own y)) y (.ins C dy [])):=fun b o e=>by rw [b8 (gq e n1),b8 (gq e n2)]; exact e
 have Xf:bQ H1 (eV (upd (upd H1 dy (.own y)) y (.ins C dy [])) y):=fun b o e=>by
  unfold eV;rw [if_neg (gq e n1)];exact sm b o e
 refine⟨i,MM M0 ρ α,y,dy,vs,rfl,bI,fun a ha z=>i6 R s1 a ha (Xf.free z),d1.same sm,hp,fun ds fs H' md s2 hy PN dn=>⟨rfl,kk (.ins C ns ds) (.ref y) H' ⟨ds,rfl,md⟩ ((s1.trans Xf).trans s2) ⟨y,dy,fs,rfl,hy,PN,dn⟩⟩⟩
end
def j5(env:Env)(x:Str×kx)(r:List (Str×ai)):Sem (ForInStep (List (Str×ai))):=do
 if x.2==Bg then do
  let a<-cellOf env x.1
  pure (fS ((x.1,a)::r))
 else pure (fS r)
theorem oF{env:Env}: ∀(l rest:List (Str×kx)) (acc:List (Str×ai)),(∀z∈l,z.2≠ .free)->forIn (l ++ rest) acc (j5 env)=forIn rest acc (j5 env)
 | [],_,_,_=>rfl
 | z::l,rest,acc,h=>by
  have hz:(z.2==Bg)=false:=by simpa using h z (.head _)
  rw [nq,cJ];have e:j5 env z acc=pure (fS acc):=by unfold j5; rw [hz]; rfl
  rw [e];simp only [vE];exact oF l rest acc fun w hw=>h w (.tail _ hw)
theorem uz{scope:iF}{env:Env}{y:Str}{c:ai}{pre post:List (Str×kx)}(hs:scope.names=pre ++ (y, .free)::post)(h1: ∀z∈pre,z.2≠ .free)(h2: ∀z∈post,z.2≠ .free)(hc:env.cells.lookup y=some c):y4 scope env=pure [(y,c)]:=by
 have all:forIn scope.names ([]:List (Str×ai)) (j5 env)=pure [(y,c)]:=by
  rw [hs,oF pre _ [] h1,cJ];have e:cellOf env y=pure c:=by unfold cellOf; rw [hc]
  have e2:j5 env (y, .free) []=pure (fS [(y,c)]):=by
   unfold j5;simp only [beq_self_eq_true,if_true,e,vE]
  rw [e2];simp only [vE];have:=oF (env:=env) post [] [(y,c)] h2;rw [bz]at this;rw [this];rfl
 have e2:=congrArg (fun m=>m >>=fun r=>(pure r:Sem (List (Str×ai)))) all;have e3:y4 scope env=(forIn scope.names ([]:List (Str×ai)) (j5 env) >>=fun r=>pure r):=rfl;rw [e3,all];rfl
theorem dU.cap1{X:Cx}{scope:iF}{x y:Str}{c:ai}{j:Nat}{pre post rn:List (Str×kx)}(hs:scope.names=pre ++ (y, .free)::post)(h1: ∀z∈pre,z.2≠ .free)(h2: ∀z∈post,z.2≠ .free)(Pn:X.env.cells.lookup y=some c)
  (hc: ∀z∈scope.names,z.2≠ .cell)(hk:scope.kind= .function)(hn: ∀y∈scope.names,y.2= .local->scope.names.lookup y.1=some .local)(ho:scope.names.lookup x=some .local)(hj:X.N[j]? =some y)(hy:X.env.scope.names.lookup y=some .cell)
  (A_:(qj scope X.env).names=rn)(Y2:rn.lookup y=some .cell)(mf: ∀z∈rn,(z.2= .cell\/z.2= .free)->z.1=y):dU X [x,y] [j] scope x [(y,c)] where
 Ci:=uz hs h1 h2 Pn
 cell:=hc
 kind:=hk
 names:=hn
 own:=ho
 hN:=⟨[y],rfl,rfl,fun i z k e1 e2=>by
  cases i with
  | zero=>
   have Kl:y=z:=by simpa using e1
   have Kf:j=k:=by simpa using e2
   subst Kl Kf;refine⟨hj,hy,by rw [A_]; exact Y2,fun c' e=> ?_⟩;rw [Pn]at e;cases e;simp
  | succ i=>simp at e1⟩
 sub:=fun z d h=>by
  rw [iC]at h;cases hb:z==y with
  | true=>
   rw [hb]at h;cases h;rw [beq_iff_eq.mp hb];exact Pn
  | false=>rw [hb]at h; simp at h
 has:=fun z h=>by
  rw [A_]at h;have:z=y:=by
   rcases h with h | h
   ·exact mf _ (cX h) (.inl rfl)
   ·exact mf _ (cX h) (.inr rfl)
  subst this;exact⟨c,by simp⟩
theorem Ni{ρ:fB}{j:Nat}{c:D}(h:ρ[j]? =some (.im c)):vV ρ [j] [c]:=⟨rfl,fun k i d e1 e2=>by
 cases k with
 | zero=>
  have Kl:j=i:=by simpa using e1
  have Kf:c=d:=by simpa using e2
  subst Kl Kf;exact h
 | succ k=>simp at e1⟩
section
variable {X:Cx}{ρ:fB}{e a b:Expr}{d:D}{ds:List D}{pos p p2 p3 p4:Pos}
def Qj(K:Frag):List V->Hp->VK->Prop:=fun xs H Q=> ∃v tp M d,xs= [v, .ref tp]/\H tp=some (.tup [.ty "list", .ty "tuple"])/\qF K M H d v/\pO d=true/\Q (.bl (qQ "list" d || qQ "tuple" d)) H
theorem E4:gW X (.builtin "isinstance") (Qj X.K):=by
 intro pins s σ H xs us Q I r ⟨v,tp,M,d,e,ht,h,hp,q⟩;subst e;obtain⟨u,c,rfl,r1,r2⟩:=vals2 r;cases (show c=au tp from r2);obtain⟨_,its,rv,o,ho,hc,n,hd⟩:=(show fJ X.prog X.w H s.heap tp (.tup [.ty "list", .ty "tuple"])from I.fb tp _ ht);obtain⟨oc,od,dt,sl⟩:=o;cases (show oc=_ from hc);cases (show dt=_ from hd);cases rv with
 | cons q1 rv=>
  cases rv with
  | cons q2 rv=>
   cases rv;cases (show _=cK "list" from q1);cases (show _=cK "tuple" from q2);refine L8 (its:= [.type "list", .type "tuple"]) (r:=qQ "list" d || qQ "tuple" d) I h r1 hp ho ?_ fun tk=>⟨.bl _,H,I.tok tk,rfl,q⟩;cases d <;> first | rfl | (cases hp)
theorem ar.isi2{x1:Nat}(hg:Gl X "isinstance")(hm:X.mg "isinstance"=none)(rC:Gl X "list")(Eg:X.mg "list"=none)(mK:Gl X "tuple")(qM:X.mg "tuple"=none)(h:kR X ρ e d)(hp:pO d=true)
  (he:ax [e, .Tuple [.Name "list" p2, .Name "tuple" p3] x1 p4] X.env=(false,bV e X.env)::ax [.Tuple [.Name "list" p2, .Name "tuple" p3] x1 p4] X.env:=by rfl)(si:ax [.Tuple [.Name "list" p2, .Name "tuple" p3] x1 p4] X.env= [(false,bV (.Tuple [.Name "list" p2, .Name "tuple" p3] x1 p4) X.env)]:=by rfl)
  (VE:ax [.Name "list" p2, .Name "tuple" p3] X.env= [(false,bV (.Name "list" p2) X.env),(false,bV (.Name "tuple" p3) X.env)]:=by rfl)(XA:ax [.Name "tuple" p3] X.env= [(false,bV (.Name "tuple" p3) X.env)]:=by rfl)
  (hpl:(fc pos (ax [.Tuple [.Name "list" p2, .Name "tuple" p3] x1 p4] X.env)).any (·.1)=false:=by rfl):
  ar X ρ (.Call (.Name "isinstance" p) [e, .Tuple [.Name "list" p2, .Name "tuple" p3] x1 p4] [] pos) (.bl (qQ "list" d || qQ "tuple" d)):=fun M0 H0 γ α σ H Q R k=>
 (jU E4 hg hm boot_isinstance (e_ iE (e_ (Jb (e_ (ym (v:= .ty "list") rC Eg (by decide +kernel) rfl (by decide) (by decide)) (e_ (ym (v:= .ty "tuple") mK qM (by decide +kernel) rfl (by decide) (by decide)) hG XA) (by rw [VE,XA]))) hG si) he) (by decide) (by decide) he hpl).to
  (h M0 H0 γ α σ H _ R fun v H1 s1 d1=>⟨by show 2<=sizeLine; decide,fun q hq=>⟨v,q,_,d,rfl,bI,d1.same (bJ hq),hp,k _ _ (s1.trans (bJ hq)) rfl⟩⟩)
end
end Z
namespace K
open PySem L2 Z
theorem Jd{f:c5}(h1:0<=f.st)(h2:0<=f.ht):good f (fD f.st.toNat [])=true:=by
 unfold good;rw [jX,decide_eq_true (by omega)];have e:(fD f.st.toNat ([]:List Int)).flatten= []:=by simp
 rw [e,decide_eq_true qb];simp only [iR,nh];intro r hr;rw [List.eq_of_mem_replicate hr];unfold jL;simp [h2]
theorem tN{f:c5}{cell:Int}{st:List (List Int)×Option Int}{k:Nat}(h:good f st.1=true):good f (g8 f cell st k).1=true:=by
 obtain⟨rows,oc⟩:=st;cases oc with
 | none=>exact h
 | some c=>
  unfold g8;dsimp only
  split
  ·rename_i hg; exact hg
  ·exact h
theorem ue{f:c5}{cell:Int}{rows:List (List Int)}{c:Int}(h:good f rows=true): ∀n,good f (place f cell rows c n).1=true
 | 0=>h
 | n+1=>by rw [pR]; exact tN (ue h n)
theorem rR{f:c5}: ∀(m:Nat) (cell:Int) (rows:List (List Int)) (left:List Int),good f rows=true->good f (pI f m cell rows left)=true
 | 0,_,_,_,h=>h
 | m+1,cell,rows,left,h=>rR m _ _ _ (ue h _)
theorem lA{f:c5}{cell:Int}{crates:List Int}(h1:0<=f.st)(h2:0<=f.ht):good f (dW f cell crates)=true:=rR _ _ _ _ (Jd h1 h2)
theorem dS{f:c5}{rows:List (List Int)}(h:good f rows=true):(rows.length:Int)=f.st:=by
 unfold good at h;simp only [bN,decide_eq_true_eq]at h;exact h.1.1
theorem pT{f:c5}{rows:List (List Int)}(h:good f rows=true)(hf:f.st<=4)(hh:f.ht<=6):rows.flatten.length<=24/\ ∀r∈rows,r.length<=6:=by
 have hr: ∀r∈rows,r.length<=6:=fun r hr=>by
  unfold good at h;simp only [bN,decide_eq_true_eq,nh]at h;have h2:=h.2 r hr;unfold jL at h2;simp only [bN,decide_eq_true_eq]at h2;omega
 refine⟨?_,hr⟩;have hl:=dS h;have: ∀rs:List (List Int),(∀r∈rs,r.length<=6)->rs.flatten.length<=6 * rs.length:=fun rs=>by
  induction rs with
  | nil=>intro _; simp
  | cons a rs ih=>
   intro ha;have h1:=ih fun r hr=>ha r (.tail _ hr);have h2:=ha a (.head _);rw [cO,aq,aK];omega
 have:=this rows hr;omega
structure Bm(mg:Str->Option af):Prop extends Bn mg where
 nH:mg "isinstance"=none
 int:mg "int"=none
 bool:mg "bool"=none
 all:mg "all"=none
 any:mg "any"=none
 zip:mg "zip"=none
 sorted:mg "sorted"=none
 min:mg "min"=none
 iT: ∃t,mg "FEWEST_STACKS"=some (.int 2 t)
 most: ∃t,mg "MOST_STACKS"=some (.int 4 t)
 low: ∃t,mg "LOWEST_HEIGHT"=some (.int 1 t)
 great: ∃t,mg "GREATEST_HEIGHT"=some (.int 6 t)
 weak: ∃t,mg "WEAKEST_CRANE"=some (.int 1 t)
 GJ: ∃t,mg "STRONGEST_CRANE"=some (.int 3 t)
 MZ: ∃t,mg "MOST_BANS"=some (.int 20 t)
 fst: ∃t,mg "FIRST_CRATE"=some (.int 0 t)
 lst: ∃t,mg "LAST_CRATE"=some (.int 9 t)
theorem uO{X:Cx}{ρ:fB}{x:Str}{z:Int}{pos:Pos}(h: ∃t,X.mg x=some (.int z t))(hg:Gl X x)(hd:(x==("__debug__":Str))=false:=by decide):ar X ρ (.Name x pos) (.int z):=
 let⟨t,e⟩:=h; ar.glob (v:= .int z) hg e ⟨t,rfl⟩ (fun _ _=>rfl) hd
abbrev Gb(i:Nat):cF:=inClass (top 16) i
abbrev zv:cF:=inClass (top 16) 0
section
variable {P:aH}{w:aW}{K:Frag}{mg:Str->Option af}{base:aY}{CX:k_}
theorem IY:bM ["value","least","most"] ["value","least","most"] (aL yD):=l8
variable (P w K mg base CX)in
abbrev oB:Prop:=
 j6 P w K mg base CX 1 "is_within" (fun i:Int×Int×Int=> [.int i.1, .int i.2.1, .int i.2.2]) (fun _=>True) (fun i=> .ok (.bl (decide (i.2.1<=i.1)&&decide (i.1<=i.2.2))))
theorem EE{f:ai}{fd:bb}(B:Bm mg)(F:ji K "is_within" "is_within" yD f fd)(hm:mg "is_within"=some (.ref f))(hb:Binds K fd ["value","least","most"] []):oB P w K mg base CX:=by
 refine eu F IY hm hb (fun i=>rfl) fun dX A outer s H E i M0 hp hr=>⟨_,rfl, ?_⟩;obtain⟨v,lo,hi⟩:=i;refine WS.cons (W1.ite (fk.t (fk.or (cg.not (cg.val (ar.nH rfl B.nH rfl B.int (by decide +kernel) (.inl rfl) (ar.r (nm 0 rfl rfl)) rfl))) fun _=>fk.or1 (cg.val (ar.nH rfl B.nH rfl B.bool (by decide +kernel) (.inr (.inl rfl)) (ar.r (nm 0 rfl rfl)) rfl)))) (fun h=> ?_) fun h=>WS.nil ?_)
 ·rw [Eb,zQ]at h;cases h
 ·exact WS.one (W1.ret (ar.chain .le .le (nm 1 rfl rfl) (nm 0 rfl rfl) (nm 2 rfl rfl)) rfl)
def kn(i:Int):Bool:=decide (0<=i)&&decide (i<=9)
theorem Lf:bM ["value"] ["value"] (aL CB):=l8
variable (P w K mg base CX)in
abbrev xZ:Prop:=
 j6 P w K mg base CX 2 "is_crate" (fun i:Int=> [.int i]) (fun _=>True) (fun i=> .ok (.bl (kn i)))
theorem HW{f:ai}{fd:bb}(nx:NX CX)(B:Bm mg)(G:oB P w K mg base CX)(F:ji K "is_crate" "is_crate" CB f fd)(hm:mg "is_crate"=some (.ref f))(hb:Binds K fd ["value"] []):xZ P w K mg base CX:=by
 refine eu F Lf hm hb (fun i=>rfl) fun dX A outer s H E i M0 hp hr=>⟨_,rfl, ?_⟩;exact WS.one (W1.ret (ar.call G hr (aP nx) rfl (i,0,9) (aU.cons (nm 0 rfl rfl) (aU.cons (uO B.fst rfl) (aU.cons (uO B.lst rfl) aU.nil))) trivial rfl) rfl)
theorem Mn:bM ["ban"] ["ban"] (aL CD):=l8
def qH(p:Int×Int):Bool:=kn p.1&&(kn p.2&& !decide (p.1=p.2))
variable (P w K mg base CX)in
abbrev Co:Prop:=
 j6 P w K mg base CX 3 "is_ban" (fun p:Int×Int=> [pD p]) (fun _=>True) (fun p=> .ok (.bl (qH p)))
theorem Iw{f:ai}{fd:bb}(nx:NX CX)(B:Bm mg)(G:xZ P w K mg base CX)(F:ji K "is_ban" "is_ban" CD f fd)(hm:mg "is_ban"=some (.ref f))(hb:Binds K fd ["ban"] []):Co P w K mg base CX:=by
 refine eu F Mn hm hb (fun i=>rfl) fun dX A outer s H E p M0 hp hr=>⟨_,rfl, ?_⟩;obtain⟨p1,p2⟩:=p;refine WS.cons (W1.ite (fk.t (fk.or (cg.not (cg.val (ar.nH rfl B.nH rfl B.tuple (by decide +kernel) (.inr (.inr (.inr (.inl rfl)))) (ar.r (nm 0 rfl rfl)) rfl))) fun _=>fk.or1 (cg.cI .ne (ar.lenT rfl B.len (nm 0 rfl rfl)) ar.int))) (fun h=> ?_) fun h=>WS.nil ?_)
 ·rw [show qQ "tuple" (pD (p1,p2))=true from rfl]at h;simp at h
 ·exact WS.one (W1.ret (ar.and (ar.call G hr (aP nx) rfl p1 (aU.cons (ar.ixT (nm 0 rfl rfl) ar.int rfl) aU.nil) trivial rfl) fun _=>ar.and (ar.call G hr (aP nx) rfl p2 (aU.cons (ar.ixT (nm 0 rfl rfl) ar.int rfl) aU.nil) trivial rfl) fun _=>ar.one (ar.cI .ne (ar.ixT (nm 0 rfl rfl) ar.int rfl) (ar.ixT (nm 0 rfl rfl) ar.int rfl))) rfl)
theorem EG:bM ["bans"] ["bans"] (aL tZ):=l8
variable (P w K mg base CX)in
abbrev uf:Prop:=
 j6 P w K mg base CX 4 "are_bans" (fun ps:List (Int×Int)=> [.lst (ps.map pD)]) (fun ps=>ps.length<=100) (fun ps=> .ok (.bl (decide (ps.length<=20)&&ps.all qH)))
theorem Cs{f:ai}{fd:bb}(nx:NX CX)(B:Bm mg)(G:Co P w K mg base CX)(F:ji K "are_bans" "are_bans" tZ f fd)(hm:mg "are_bans"=some (.ref f))(hb:Binds K fd ["bans"] []):uf P w K mg base CX:=by
 refine eu F EG hm hb (fun i=>rfl) fun dX A outer s H E ps M0 hp hr=>⟨_,rfl, ?_⟩;have qU:ps.length<=100:=hp;refine WS.cons (W1.ite (fk.t (fk.or (cg.not (cg.val (ar.isi2 rfl B.nH rfl B.list rfl B.tuple (ar.r (nm 0 rfl rfl)) rfl))) fun _=>fk.or1 (cg.cI .gt (ar.lenL rfl B.len (ar.r (nm 0 rfl rfl))) (uO B.MZ rfl)))) (fun h=> ?_) fun h=>WS.nil ?_)
 ·rw [show(qQ "list" (D.lst (ps.map pD)) || qQ "tuple" (D.lst (ps.map pD)))=true from rfl,ae]at h;have h':(20:Int) < (ps.length:Int):=by simpa using h
  refine WS.one (W1.ret ar.bl ?_);show D.bl false=D.bl (decide (ps.length<=20)&&ps.all qH);rw [decide_eq_false (by omega)];rfl
 ·rw [show(qQ "list" (D.lst (ps.map pD)) || qQ "tuple" (D.lst (ps.map pD)))=true from rfl,ae]at h;have h': ¬(20:Int) < (ps.length:Int):=by simpa using h
  refine WS.one (W1.ret (ar.to (ar.all (bs:=ps.map qH) rfl rfl B.all (ar.r (dF.toD (dF.comp (ds:=ps.map pD) (es:=(ps.map qH).map D.bl) (cs:= []) (dU.closed (by decide +kernel) (by decide +kernel) rfl (by decide +kernel) rfl) rfl (by decide +kernel) (iU.list (nm 0 rfl rfl)) rh (by simp) (by rw [ae]; omega) ?_)))) (d':= .bl (decide (ps.length<=20)&&ps.all qH)) (by rw [List.all_map,decide_eq_true (show ps.length<=20 by omega)]; rfl)) rfl);intro C s₀ H₀ fp pins i d e h1 h2;rw [aA]at h1;rw [aA,aA]at h2;cases ei:ps[i]? with
  | none=>rw [ei]at h1; cases h1
  | some v=>
   rw [ei]at h1 h2;cases h1;cases h2;exact ar.call G hr (aP nx) rfl v (aU.cons (nm 0 rfl rfl) aU.nil) trivial rfl
end
end K
namespace Z
open PySem PySem.Spec PyProof.Rows L2
def o_(ns:List Int):List Int:=ns.mergeSort fun a b=>decide (a<=b)
theorem nO(ns:List Int):(o_ ns).Perm ns:=List.mergeSort_perm _ _
theorem HV(ns:List Int):(o_ ns).Pairwise (· <= ·):=by
 have h:=List.pairwise_mergeSort (le:=fun a b:Int=>decide (a<=b)) (fun a b c h1 h2=>by simp only [decide_eq_true_eq]at *; omega) (fun a b=>by simp only [Bool.or_eq_true,decide_eq_true_eq]; omega) ns;exact h.imp fun h=>of_decide_eq_true h
theorem zM{ns Kh:List Int}(hp:Kh.Perm ns)(hs:Kh.Pairwise (· <= ·)):Kh=o_ ns:=
 List.Perm.eq_of_pairwise (fun a b _ _ h1 h2=>Int.le_antisymm h1 h2) hs (HV ns) (hp.trans (nO ns).symm)
theorem N8{a b:List Int}(h:a.Perm b):o_ a=o_ b:=zM ((nO a).trans h) (HV a)
theorem qL(ns:List Int):(o_ ns).length=ns.length:=(nO ns).length_eq
theorem qy: ∀{us:List af} {ns:List Int},jy us ns->Vals (ns.map V.int) us
 | _,_, .nil=> .nil
 | _,_, .cons _ _ h=> .cons ⟨_,rfl⟩ (qy h)
section
variable {X:Cx}{ρ:fB}{M0:MP}{H0:Hp}{P:pJ}{e a b c tg:Expr}{d:D}{ds:List D}{pos p p1 p2:Pos}
theorem xQ:gW X (.builtin "sorted") (fun xs H Q=> ∃q ns,xs= [.ref q]/\o6 X.K H q (ns.map V.int)/\ns.length < 64/\ ∀l,H l=none->Q (.ref l) (upd H l (.lst ((o_ ns).map V.int)))):=by
 intro pins s σ H xs us Q I r ⟨q,ns,e,hq,hl,k⟩;subst e;obtain⟨u,rfl,rx⟩:=vals1 r;cases rx;obtain⟨its,r',pl,hz⟩:=I.list hq;have hlen:=r'.length;rw [ae]at hlen;refine sorted_ints pl.isList (intsAre_of r') (by omega) fun out Kh a1 a2 a3=> ?_;obtain⟨e,he⟩:=sortedAll_at s.heap its out;have en:=zM a2 a3;subst en;refine⟨.ref (s.heap.objs.size+1),_,I.laid (t':=s.toks) (fun b o e=>sortedAll_old e) (FR _) (o:= .lst ((o_ ns).map V.int)) ⟨by rw [ae,qL]; exact kr (by omega),out.toList,e,qy a1,by rw [he]⟩,rfl,k _ (I.fb.fresh (FR _))⟩
theorem dF.sortedI{ns:List Int}(hg:Gl X "sorted")(hm:X.mg "sorted"=none)(h:kR X ρ e (.lst (ns.map .int)))(hl:ns.length < 64)(he:ax [e] X.env= [(false,bV e X.env)]:=by rfl):dF X ρ (.Call (.Name "sorted" p) [e] [] pos) ((o_ ns).map .int):=fun M0 H0 γ α σ H Q R k=>
 (jU xQ hg hm (by decide +kernel) (e_ iE hG he) (by decide) (by decide) he).to (h M0 H0 γ α σ H _ R fun v H1 s1 d1=>by
  obtain⟨q,xs,rfl,sq,dn⟩:=d1;rw [dn.ints]at sq;exact⟨q,ns,rfl,sq,hl,fun l A8=>k l _ H1 _ s1 A8 (bJ A8) bI (cU.of_ints _)⟩)
end
section
variable {P:aH}{w:aW}{K:Frag}{mg:Str->Option af}{base:aY}{CX:k_}{k:Nat}{x qual:Str}{st:cF}{f:ai}{fd:bb}{N ps:List Str}{ι:Type}{args:ι->List D}{pre:ι->Prop}{res:ι->Except ai D}
theorem LO(F:ji K x qual st f fd)(S:bM N ps (aL st))(hm:mg x=some (.ref f))(hb:Binds K fd ps [])(hl: ∀i,(args i).length=ps.length)
  (body: ∀(dX:af) (A:bA) (outer:List Env) (s:aj) (H:Hp) (E:XK) (i:ι) (M0:MP),pre i->eW k (A.deeper (mM qual (aL st) s.heap.objs.size f dX))->
   ∃d,res i= .ok d/\ ∀(σ:St),Rep K M0 H [] (fun _=>0) (uh N (args i)) σ H->mi (pb CX P w K mg base N qual (aL st) f dX A outer s H E).nox (bo st) (ends K M0 H [] {N:=fun _=>d= .non,R:=fun d'=>d'=d}) σ H):j6 P w K mg base CX (k+1) x args pre res:=by
 refine⟨f,fd,ps, ?_,hm,F.kp,hb⟩;obtain⟨oc,od,kV,doc,pm,an,dX,ct,vK,rfl,lk,kc⟩:=F.ex;refine zI lk kc S (fun vs H Q E ⟨i,M0,_,h,_⟩=>by rw [h.len,hl]) fun A outer s H vs Q E hr BC=> ?_;obtain⟨i,M0,hM,h,hp,k1,k2⟩:=BC;obtain⟨d,hd,ws⟩:=body dX A outer s H E i M0 hp hr;refine⟨mi _ (bo st),(gr (X:=(pb CX P w K mg base N qual (aL st) f dX A outer s H E).nox)).nox, ?_⟩;refine mi.mono (En:=ends K M0 H [] {N:=fun _=>d= .non,R:=fun d'=>d'=d}) (fun fA H' ⟨α,ρ,R,e⟩=> ?_) (fun v H' ⟨d',e,sm,dn⟩=> ?_) (fun _ _ ⟨_,_,_,z⟩=>z.elim) (fun _ _ ⟨_,_,_,z⟩=>z.elim) (ws _ (rep0 hM h))
 ·exact k1 d hd .non H' R.same (by rw [e]; exact rfl)
 ·subst e;exact k1 _ hd v H' sm dn
end
end Z
namespace Z
open PySem PySem.Spec PyProof.Rows
abbrev Ov(l:List Env):List ai:=l.filterMap (·.frame)
def TM(h:aY)(e T:ai)(cls:af):Prop:=
 T≠e/\(∃oe vs,h.get? e=some oe/\oe.cls=cls/\oe.data= .fields vs/\vs[1]? =some (.ref T)/\oe.dict=none)/\ ∃oT ts,h.get? T=some oT/\oT.data= .fields ts/\ts[3]? =some .none
structure Dr(l:List Env)(ch:List ai)(e T:ai)(cls:af)(h h':aY):Prop where
 new:h.objs.size<=T
 tr:TM h' e T cls
 keep: ∀b o,b∉ch->b∉Ov l->h.get? b=some o->h'.get? b=some o
 slot: ∀b o,b∈Ov l->h.get? b=some o-> ∃sl,h'.get? b=some {o with slots:=sl}
section
variable {M:Model}{A:bA}{E:af->aj->Prop}{s:aj}
theorem H_(f:Array af->Array af)(o:Obj):(gU f o).dict=o.dict:=by
 obtain⟨c,d,dt,sl⟩:=o;cases dt <;> rfl
theorem uD{base:aY}{env:Env}{outer:List Env}{L e:ai}{oe:Obj}{vs:Array af}{head:af}{hn:Bool}{Q:Unit->aj->Prop}
  (Mv:A.frames=some (env::outer))(hl:s.heap.FunFrames base (env::outer))(hf:env.frame=some L)(he:s.heap.get? e=some oe)(hd:oe.data= .fields vs)(hsz:1 < vs.size)(RA:oe.dict=none)
  (h: ∀h' T,Dr (env::outer) [e] e T oe.cls s.heap h'->Q () {s with heap:=h'}):
  av M A (do let a<-frameOf env; let pl<-entryPlaceOf L hn; let b<-EntryCells.newEntry head a .none (fm L) .none pl; ig (.ref e) 1 b) (fun _ s'=>av M A (setFlight (.ref e) none) Q E s') E s:=by
 have nofr: ∀b∈Ov (env::outer),b≠e:=fun b hb q=>by
  obtain⟨_,o,ho,nf⟩:=hl.mem hb;rw [q,he]at ho;cases ho;exact nf vs hd
 refine aa (wpAny_frameOf_fun Mv hl hf fun h1 S6=>aa (wpAny_entryPlaceOf fun pl hpl=> ?_));unfold EntryCells.newEntry newFields;refine aa (bx ?_ (hpl.sizeOk5 _ _ _ _ _));have e1:h1.get? e=some oe:=(S6.2.1 e fun m=>nofr e m rfl).trans he;generalize hO:({cls:= .type "traceback",dict:=none,data:= .fields ([head, .ref L, .none,fm L, .none] ++ (if pl.isEmpty then fD 6 bD else pl)).toArray}:Obj)=oT;have dT: ∃ts:Array af,oT.data= .fields ts/\3 < ts.size:=⟨_,by rw [<-hO],by simp only [aD,aq,aK]; omega⟩;have fT:oT.isFreed=false:=by obtain⟨ts,q,_⟩:=dT; exact pA q
 have e2:(h1.push oT).get? e=some oe:=ah _ e1;have t2:(h1.push oT).get? h1.objs.size=some oT:=aw _ fT;have ne:h1.objs.size≠e:=b9 (az e1);refine eU e2 hd hsz ?_;generalize hU:(h1.push oT).update e (gU (·.setIfInBounds 1 (au h1.objs.size)))=h3;have d3:=lO hd (·.setIfInBounds 1 (au h1.objs.size));have e3:h3.get? e=some (gU (·.setIfInBounds 1 (au h1.objs.size)) oe):=by rw [<-hU]; exact dw _ e2 (pA d3)
 have k3: ∀b,b≠e->h3.get? b=(h1.push oT).get? b:=fun b hb=>by rw [<-hU]; exact eB _ _ hb.symm
 have t3:h3.get? h1.objs.size=some oT:=(k3 _ ne).trans t2;obtain⟨ts,VF,Xy⟩:=dT;unfold setFlight;refine aa (bW e3 d3 (x:= .ref h1.objs.size) (by simp [hsz]) ?_);rw [if_pos (show(au h1.objs.size !=bD)=true from by simp)];refine eU t3 VF Xy (h _ h1.objs.size ⟨oj S6.1.symm,⟨ne,⟨_,_, ?_,Obj.cls_mapFields _ _,d3,by simp [hsz],(H_ _ _).trans RA⟩,⟨_,_,dw _ t3 (pA (lO VF _)),lO VF _,by simp [Xy]⟩⟩,fun b o n1 n2 q=> ?_,fun b o m q=> ?_⟩)
 ·rw [eB _ _ ne];exact e3
 ·have q1:h1.get? b=some o:=(S6.2.1 b n2).trans q;have nb:h1.objs.size≠b:=b9 (az q1);rw [eB _ _ nb,k3 b fun z=>n1 (by simp [z])];exact ah _ q1
 ·obtain⟨sl,q1⟩:=S6.2.2 b o q;have nb:h1.objs.size≠b:=b9 (az q1);refine⟨sl, ?_⟩;rw [eB _ _ nb,k3 b (nofr b m)];exact ah _ q1
theorem zS{base:aY}{env:Env}{outer:List Env}{L e:ai}{oe:Obj}{vs:Array af}{Q:Unit->aj->Prop}(Mv:A.frames=some (env::outer))(hl:s.heap.FunFrames base (env::outer))(hf:env.frame=some L)
  (he:s.heap.get? e=some oe)(hd:oe.data= .fields vs)(h1:vs[1]? =some .none)(RA:oe.dict=none)(h: ∀h' T,Dr (env::outer) [e] e T oe.cls s.heap h'->Q () {s with heap:=h'}):av M A (leaving env (.ref e)) Q E s:=by
 unfold leaving noteFrame;simp only [hf];refine aa (aa (bW he hd h1 ?_));rw [if_neg (by decide)];exact uD Mv hl hf he hd (bT.mp h1).1 RA h
theorem Cz{base:aY}{env:Env}{outer:List Env}{L e T:ai}{cls:af}{Q:Unit->aj->Prop}(Mv:A.frames=some (env::outer))(hl:s.heap.FunFrames base (env::outer))(hf:env.frame=some L)(ht:TM s.heap e T cls)
  (h: ∀h' T',Dr (env::outer) [e,T] e T' cls s.heap h'->Q () {s with heap:=h'}):av M A (leaving env (.ref e)) Q E s:=by
 obtain⟨ne,⟨oe,vs,he,hc,hd,h1,RA⟩,oT,ts,hT,SF,h3⟩:=ht;subst hc;unfold leaving noteFrame;simp only [hf];refine aa (aa (bW he hd h1 ?_));rw [if_pos (show(au T !=bD)=true from by simp)];refine aa (bW hT SF h3 ?_);rw [if_neg (show ¬((bD==fm L)=true)from by simp [fm])];refine aa (eU hT SF (bT.mp h3).1 ?_);have k: ∀b,b≠T->(s.heap.update T (gU (·.setIfInBounds 3 bD))).get? b=s.heap.get? b:=fun b hb=>eB _ _ hb.symm;have YW: ∀b∈Ov (env::outer),b≠T:=fun b hb q=>by
  obtain⟨_,o,ho,nf⟩:=hl.mem hb;rw [q,hT]at ho;cases ho;exact nf ts SF
 refine uD (s:={s with heap:=s.heap.update T (gU (·.setIfInBounds 3 bD))}) Mv (hl.of_keeps fun b o q nf=>⟨o,(k b fun z=> ?_).trans q,rfl⟩) hf ((k e ne.symm).trans he) hd (bT.mp h1).1 RA fun h' T' x=>h h' T' ⟨?_,x.tr,fun b o n1 n2 q=> ?_,fun b o m q=> ?_⟩
 ·rw [z,hT]at q;cases q;exact nf ts SF
 ·have:=x.new;rw [show(Shared.heap {s with heap:=s.heap.update T (gU (·.setIfInBounds 3 bD))}).objs.size=s.heap.objs.size from Heap.size_after_update ..]at this;exact this
 ·exact x.keep b o (fun z=>n1 (by simp at z; simp [z])) n2 ((k b fun z=>n1 (by simp [z])).trans q)
 ·exact x.slot b o m ((k b (YW b m)).trans q)
end
end Z
namespace Z
open PySem PySem.Spec PyProof.Rows L2
def fP(P:aH)(w:aW):k_:=fun outer H s E e s'=> ∃(a T C:ai) (H':Hp),e= .ref a/\s'.os=s.os/\oi s'.gens/\Un (Bt outer) [] H H' s.heap s'.heap/\qh P w H' s'.heap/\s.heap.get? a=none/\s.heap.get? T=none/\H' a=none/\H' T=none/\TM s'.heap a T (.ref C)/\E (.ref C) none H'
theorem kG{P:aH}{w:aW}: ∀l H s e s',fP P w l H s E0 e s'->False:=fun _ _ _ _ _ ⟨_,_,_,_,_,_,_,_,_,_,_,_,_,_,z⟩=>z
section
variable {P:aH}{w:aW}{H:Hp}{h:aY}{a:ai}{o:HO}
theorem EI(x:fJ P w H h a o): ∃u,h.get? a=some u:=by
 cases o with
 | lst xs=>obtain⟨_,_,_,_,e⟩:=x; exact⟨_,e⟩
 | tup xs=>obtain⟨_,_,_,o,e,_⟩:=x; exact⟨_,e⟩
 | dK vt=>obtain⟨_,_,_,_,o,_,_,e,_⟩:=x; exact⟨_,e⟩
 | dT vt=>obtain⟨_,_,xs,_,o,es,ep,e,_⟩:=x; exact⟨_,e⟩
 | set S n=>obtain⟨o,es,ep,t,e,_⟩:=x; exact⟨_,e⟩
 | ins C dx fs=>obtain⟨_,_,_,e,_⟩:=x; exact⟨_,e⟩
 | own b=>exact x
 | xd fs=>obtain⟨_,⟨_,_,_,e,_⟩,_⟩:=x; exact⟨_,e⟩
 | rng lo hi=>obtain⟨_,_,_,e⟩:=x; exact⟨_,e⟩
 | frz o u=>exact⟨_,x.1⟩
 | tbl ps=>exact⟨_,x⟩
 | met f y=>exact⟨_,x⟩
 | ext φ=>exact x.2.1
theorem HJ(x:qh P w H h)(e:h.get? a=none):H a=none:=by
 cases q:H a with
 | none=>rfl
 | some o=>
  obtain⟨u,z⟩:=EI (x a o q);rw [e]at z; cases z
end
section
variable {X:Cx}{pins:List (ai×Obj)}{σ:St}{H:Hp}{s:aj}{h':aY}{ch:List ai}{e T:ai}{cls:af}
theorem zl(I:Inv X pins σ H s)(Pm:X.stack=X.env::X.outer)(hex:X.ex= [])(hf:X.env.frame=some X.env.locals)(x:Dr (X.env::X.outer) ch e T cls s.heap h')(FF: ∀b∈ch,H b=none/\X.s₀.heap.get? b=none):
  Un (Bt X.outer) [] X.H₀ H X.s₀.heap h'/\qh X.prog X.w H h':=by
 have B:Un (Bt X.outer) [] X.H₀ H X.s₀.heap s.heap:=by have:=I.base; rwa [hex]at this
 have NC: ∀b o,X.s₀.heap.get? b=some o->b∉ch:=fun b o q m=>by rw [(FF b m).2]at q; cases q
 have XJ: ∀b,b∈Ov (X.env::X.outer)↔b=X.env.locals\/b∈Bt X.outer:=fun b=>by
  show b∈List.filterMap (·.frame) (X.env::X.outer)↔_;rw [kT,hf];exact aV
 have nL: ∀b o,X.s₀.heap.get? b=some o->b≠X.env.locals:=fun b o q=>aN (bB (az q) I.ok.above);refine⟨⟨fun b o q n hb _=> ?_,fun b o q n hb hx=> ?_,fun b o q n hx=>B.free b o q n hx,fun b o q hx=> ?_,B.wc,B.ud,B.wa⟩,fun b u q=> ?_⟩
 ·exact x.keep b o (NC b o q) (fun m=>((XJ b).mp m).elim (nL b o q) hb) (B.keep b o q n hb (by simp))
 ·obtain⟨sl,q1⟩:=B.slot b o q n hb hx;obtain⟨U5,q2⟩:=x.slot b _ ((XJ b).mpr (.inr hb)) q1;exact⟨U5,q2⟩
 ·obtain⟨o',q1⟩:=B.there b o q hx
  by_cases m:b∈Ov (X.env::X.outer)
  ·obtain⟨sl,q2⟩:=x.slot b o' m q1;exact⟨_,q2⟩
  ·exact⟨o',x.keep b o' (NC b o q) m q1⟩
 ·have ok: ∀c v,H c=some v->c∉ch/\c∉Ov (X.env::X.outer):=fun c v z=>by
   refine⟨fun m=> ?_,fun m=> ?_⟩
   ·rw [(FF c m).1]at z;cases z
   ·have:=I.stkFree c (by rw [Pm]; exact m);rw [this]at z;cases z
  refine(I.fb b u q).stay (fun c v hc z=> ?_) (fun _ z=>z) fun _ _ z=>z;have:=hc.elim (fun z=>by rw [z]; exact ok b u q) fun z=>ok c _ z;exact x.keep c v this.1 this.2 z
end
section
variable {P:aH}{w:aW}{K:Frag}{mg:Str->Option af}{base:aY}{N:List Str}{qual:Str}{scope:iF}{f:ai}{cd:af}{A:bA}{outer:List Env}{s0:aj}{H0:Hp}{E:XK}
abbrev zp(P:aH)(w:aW)(K:Frag)(mg:Str->Option af)(base:aY)(N:List Str)(qual:Str)(scope:iF)(f:ai)(cd:af)(A:bA)(outer:List Env)(s0:aj)(H0:Hp)(E:XK):Cx:=pb (fP P w) P w K mg base N qual scope f cd A outer s0 H0 E
theorem Ce{pins:List (ai×Obj)}{σ:St}{H:Hp}{s:aj}{h1:aY}{e C:ai}{vs:List af}(I:Inv (zp P w K mg base N qual scope f cd A outer s0 H0 E) pins σ H s)(m:Heap.MadeExcOf s.heap h1 e (.ref C) vs)(hE:E (.ref C) none H):
  (zp P w K mg base N qual scope f cd A outer s0 H0 E).xe (.ref e) {s with heap:=h1}:=by
 have I1:Inv (zp P w K mg base N qual scope f cd A outer s0 H0 E) pins σ H {s with heap:=h1}:=I.kept (t':=s.toks) m.keeps;obtain⟨t,he,_,_⟩:=m.there;have n0:s0.heap.get? e=none:=by
  cases q:s0.heap.get? e with
  | none=>rfl
  | some o=>
   obtain⟨o',z⟩:=I.base.there e o q (by simp [pb]);rw [m.new]at z; cases z
 refine zS (s:={s with heap:=h1}) (base:=base) I1.ok.frames I1.stack rfl he rfl rfl rfl fun h2 T x=> ?_;have hH:H e=none:=HJ I.fb m.new;obtain⟨u,hk⟩:=zl I1 rfl rfl rfl x (fun b hb=>by
  have:b=e:=by simpa using hb
  subst this;exact⟨hH,n0⟩)
 have nT:s0.heap.get? T=none:=FO (bg I1.sz x.new);exact⟨e,T,C,H,rfl,I.os,I.bare,u,hk,n0,nT,hH,I1.fb.fresh x.new,x.tr,hE⟩
theorem lg:Passes (fP P w) (zp P w K mg base N qual scope f cd A outer s0 H0 E) E:=by
 intro pins σ H s e s' I ⟨a,T,C,H',ee,os,bare,un,fb,na,nT,ha,hT,tr,hE⟩;subst ee;obtain⟨hh,g,d,tk,MD⟩:=s';obtain rfl:MD=s.os:=os;have I1:Inv (zp P w K mg base N qual scope f cd A outer s0 H0 E) pins σ H' {s with heap:=hh,gens:=g,drawn:=d,toks:=tk}:=I.call (h':=hh) (g':=g) (d':=d) (t':=tk) (ch:= []) un fb bare (fun b z=>absurd z (by simp));have n0: ∀b,s.heap.get? b=none->s0.heap.get? b=none:=fun b z=>by
  cases q:s0.heap.get? b with
  | none=>rfl
  | some o=>
   obtain⟨o',z'⟩:=I.base.there b o q (by simp [pb]);rw [z]at z'; cases z'
 refine Cz (s:={s with heap:=hh,gens:=g,drawn:=d,toks:=tk}) (base:=base) I1.ok.frames I1.stack rfl tr fun h2 T' x=> ?_;obtain⟨u,hk⟩:=zl I1 rfl rfl rfl x (fun b hb=>by
  have:b=a\/b=T:=by simpa using hb
  rcases this with rfl | rfl
  ·exact⟨ha,n0 _ na⟩
  ·exact⟨hT,n0 _ nT⟩)
 have YV:s0.heap.get? T'=none:=FO (bg I1.sz x.new);exact⟨a,T',C,H',rfl,I.os,bare,u,hk,n0 _ na,YV,ha,I1.fb.fresh x.new,x.tr,hE⟩
end
abbrev EA:List af:= [.type "ValueError", .type "Exception", .type "BaseException", .type "object"]
structure AB(x:Str)(C:ai)(mg:Str->Option af)(base:aY):Prop where
 ex: ∃(newId Bn W9:String) (Xj:List af),OwnCls x C EA newId mg base/\ExcBaseFacts Bn newId W9 Xj/\EA.contains (.type Bn)=true
def IF(X:Cx)(ρ:fB)(E:XK)(e:Expr)(C:ai):Prop:= ∀(M0:MP) (H0:Hp) (γ:List (D×V)) (α:Nat->ai) (σ:St) (H:Hp) (Q:VK),Rep X.K M0 H0 γ α ρ σ H->(∀a H',bQ H H'->E (.ref C) a H')->tE X e σ H Q
def vW(X:Cx)(ρ:fB)(E:XK)(st:cF)(C:ai):Prop:= ∀(M0:MP) (H0:Hp) (γ:List (D×V)) (α:Nat->ai) (σ:St) (H:Hp) (En:Ends),Rep X.K M0 H0 γ α ρ σ H->(∀a H',bQ H H'->E (.ref C) a H')->tS X st En σ H
def f7(X:Cx)(ρ:fB)(E:XK)(st:List cF)(C:ai):Prop:= ∀(M0:MP) (H0:Hp) (γ:List (D×V)) (α:Nat->ai) (σ:St) (H:Hp) (En:Ends),Rep X.K M0 H0 γ α ρ σ H->(∀a H',bQ H H'->E (.ref C) a H')->mi X st En σ H
section
variable {X:Cx}{ρ:fB}{E:XK}{e c:Expr}{es:List Expr}{st:cF}{ny s1 s2:List cF}{C:ai}{d:D}{pos p pos':Pos}{CX:k_}{k:Nat}{x:Str}{ι:Type}{args:ι->List D}{pre:ι->Prop}{res:ι->Except ai D}
theorem IF.call{i:ι}(F:j6 X.prog X.w X.K X.mg X.base CX k x args pre res)(hr:eW k X.A)(hx:Passes CX X E)(hg:Gl X x)(ha:aU X ρ (e::es) (args i))(hp:pre i)(md:res i= .error C)(p9:(x==("__debug__":Str))=false:=by decide)
  (he:ax (e::es) X.env=(false,bV e X.env)::ax es X.env:=by rfl)(hpl:(fc pos (ax es X.env)).any (·.1)=false:=by rfl):IF X ρ E (.Call (.Name x p) (e::es) [] pos) C:=fun M0 H0 γ α σ H Q R kE=>by
 obtain⟨f,fd,ps,F,hm,hk,hb⟩:=F.ex;refine(sQ F hr hg hm hk hb .nil hx xV p9 he hpl).to (ha M0 H0 γ α σ H _ R fun vs H1 s1 d1=> ?_);show nX X.K args pre res (vs ++ []) H1 Q E;rw [bz];exact⟨i,MM M0 ρ α,i6 R s1,d1,hp,(fun d' e=>by rw [md]at e; cases e),(fun C' e a H2 s2=>by rw [md]at e; cases e; exact kE a H2 (s1.trans s2))⟩
theorem vW.expr(h:IF X ρ E e C)(hs:cu e none pos.line X.env=pure false:=by rfl):vW X ρ E (.Expr e pos) C:=fun M0 H0 γ α σ H En R kE=>(oQ iE hs).to (h M0 H0 γ α σ H _ R kE)
theorem vW.ite{t:Bool}(h:cg X ρ c t)(h1:t=true->f7 X ρ E s1 C)(h2:t=false->f7 X ρ E s2 C):vW X ρ E (.If c s1 s2 pos) C:=fun M0 H0 γ α σ H En R kE=>
 (DS IC gr gr).to (h M0 H0 γ α σ H _ R fun H1 s=>by
  cases e:t with
  | true=>exact vU (h1 e M0 H0 γ α σ H1 _ (R.next s) fun a H' s'=>kE a H' (s.trans s'))
  | false=>exact uE (h2 e M0 H0 γ α σ H1 _ (R.next s) fun a H' s'=>kE a H' (s.trans s')))
theorem f7.here(h:vW X ρ E st C):f7 X ρ E (st::ny) C:=fun M0 H0 γ α σ H En R kE=>(dh rV gr).to (h M0 H0 γ α σ H _ R kE)
theorem f7.expr(h:ar X ρ e d)(k:f7 X ρ E ny C)(hs:cu e none pos.line X.env=pure false:=by rfl):f7 X ρ E (.Expr e pos::ny) C:=fun M0 H0 γ α σ H En R kE=>
 (dh rV gr).to ((oQ iE hs).to (h M0 H0 γ α σ H _ R fun v H' s _=>k M0 H0 γ α σ H' En (R.next s) fun a H2 s2=>kE a H2 (s.trans s2)))
end
section
variable {P:aH}{w:aW}{K:Frag}{mg:Str->Option af}{base:aY}{N:List Str}{qual:Str}{scope:iF}{f:ai}{cd:af}{A:bA}{outer:List Env}{s0:aj}{H0:Hp}{E:XK}
theorem vW.raise{ρ:fB}{x:Str}{C:ai}{e:Expr}{d:D}{np p7 pos:Pos}(O:AB x C mg base)(hg:Gl (zp P w K mg base N qual scope f cd A outer s0 H0 E) x)(he:ar (zp P w K mg base N qual scope f cd A outer s0 H0 E) ρ e d)
  (hs:ax [e] (zp P w K mg base N qual scope f cd A outer s0 H0 E).env= [(false,bV e (zp P w K mg base N qual scope f cd A outer s0 H0 E).env)]:=by rfl)(p9:(x==("__debug__":Str))=false:=by decide):
  vW (zp P w K mg base N qual scope f cd A outer s0 H0 E) ρ E (.Raise (some (.Call (.Name x np) [e] [] p7)) none pos) C:=fun M0 Hb γ α σ H En R kE pins s I=>by
 obtain⟨newId,Bn,W9,Xj,O,Fn,Z3⟩:=O.ex;obtain⟨tl,N',nm,q,bs,hdct,sn,sub,ab,col,dd,k0,k1,k2,k3,k5,mN,hC,hN,U8,T⟩:=O.obj;have hlen: ∀us:List af,us.length=1->us.length<=sizeLine:=fun us h=>by rw [h]; decide
 refine wpAny_Raise_call_subU (C:=C) (nm:=nm) (q:=q) (N:=N') (bs:=bs) (bm:=tl) (hdct:=hdct) (sn:=sn) (sub:=sub) (ab:=ab) (col:=col) (dd:=dd) (k0:=k0) (k1:=k1) (k2:=k2) (k3:=k3) (k5:=k5) (newId:=newId) Fn Z3 za (mN:=mN) (T.hasType za.hasBase) (I.ok.hd rfl) (by rw [hs]; rfl) U8 (sJ I hg O.bound ⟨rfl, ?_⟩ p9);have run:=(e_ (iE (X:=zp P w K mg base N qual scope f cd A outer s0 H0 E) (e:=e)) hG hs) p7 pins s σ H (fun vs H1=>vs.length=1/\bQ H H1) I (he M0 Hb γ α σ H _ R fun v H1 s1 _=>⟨rfl,s1⟩);rw [hs]at run ⊢;refine Calls.evalArgs_plain (b_ run (fun us s2 h2=> ?_) fun _ _ z=>z);obtain⟨vs,H1,I2,r2,l1,sm⟩:=h2;have kp: ∀b o,base.get? b=some o->s2.heap.get? b=some o:=I2.bk;exact⟨rfl,hlen us (r2.length▸l1),kp _ _ hC,hN.keeps kp,T.keeps kp,fun h' ex m=>Ce I2 m (kE none H1 sm)⟩
end
section
variable {P:aH}{w:aW}{K:Frag}{mg:Str->Option af}{base:aY}{k:Nat}{x qual:Str}{st:cF}{f:ai}{fd:bb}{N ps:List Str}{ι:Type}{args:ι->List D}{pre:ι->Prop}{res:ι->Except ai D}
theorem oS(F:ji K x qual st f fd)(S:bM N ps (aL st))(hm:mg x=some (.ref f))(hb:Binds K fd ps [])(hl: ∀i,(args i).length=ps.length)
  (body: ∀(dX:af) (A:bA) (outer:List Env) (s:aj) (H:Hp) (E:XK) (i:ι) (M0:MP),pre i->eW k (A.deeper (mM qual (aL st) s.heap.objs.size f dX))->
   (∃d,res i= .ok d/\WS (zp P w K mg base N qual (aL st) f dX A outer s H E).nox M0 H (bo st) (uh N (args i)) {N:=fun _=>d= .non,R:=fun d'=>d'=d})\/
   ∃C,res i= .error C/\f7 (zp P w K mg base N qual (aL st) f dX A outer s H E) (uh N (args i)) E (bo st) C):j6 P w K mg base (fP P w) (k+1) x args pre res:=by
 refine⟨f,fd,ps, ?_,hm,F.kp,hb⟩;obtain⟨oc,od,kV,doc,pm,an,dX,ct,vK,rfl,lk,kc⟩:=F.ex;refine zI lk kc S (fun vs H Q E ⟨i,M0,_,h,_⟩=>by rw [h.len,hl]) fun A outer s H vs Q E hr BC=> ?_;obtain⟨i,M0,hM,h,hp,k1,k2⟩:=BC
 rcases body dX A outer s H E i M0 hp hr with⟨d,hd,ws⟩ | ⟨C,hC,rs⟩
 ·refine⟨mi _ (bo st),(gr (X:=(zp P w K mg base N qual (aL st) f dX A outer s H E).nox)).nox, ?_⟩;refine mi.mono (En:=ends K M0 H [] {N:=fun _=>d= .non,R:=fun d'=>d'=d}) (fun fA H' ⟨α,ρ,R,e⟩=> ?_) (fun v H' ⟨d',e,sm,dn⟩=> ?_) (fun _ _ ⟨_,_,_,z⟩=>z.elim) (fun _ _ ⟨_,_,_,z⟩=>z.elim) (ws [] (fun _=>0) _ H (rep0 hM h))
  ·exact k1 d hd .non H' R.same (by rw [e]; exact rfl)
  ·subst e;exact k1 _ hd v H' sm dn
 ·exact⟨mi _ (bo st),gr (X:=zp P w K mg base N qual (aL st) f dX A outer s H E),rs M0 H [] (fun _=>0) _ H _ (rep0 hM h) fun a H' sm=>k2 C hC a H' sm⟩
end
end Z
namespace Z
open PySem PySem.Spec PyProof.Rows
end Z
namespace Z
open PySem PySem.Spec PyProof.Rows L2
end Z
namespace Z
open PySem PySem.Spec PySem.W PyProof.Rows
end Z
namespace Z
open PySem PySem.Spec PyProof.Rows L2
def D.bare:Nat->D->Prop
 | _, .non=>True
 | _, .bl _=>True
 | _, .int _=>True
 | _, .str _=>True
 | n+1, .tup ds=> ∀d∈ds,D.bare n d
 | n+1, .ins _ _ ds=> ∀d∈ds,D.bare n d
 | _,_=>False
theorem cU.map1{K:Frag}{M M':MP}{H H':Hp}: ∀{ds:List D} {xs:List V},(∀d∈ds, ∀v,Dn K M H d v->Dn K M' H' d v)->cU K M H ds xs->cU K M' H' ds xs
 | [],_,_,h=>h
 | d::ds,_,k,⟨v,t,e,h1,h2⟩=>⟨v,t,e,k d (.head _) v h1,cU.map1 (fun x hx=>k x (.tail _ hx)) h2⟩
theorem Dn.bare{K:Frag}{M M':MP}{H:Hp}: ∀(n:Nat) {d:D} {v:V},D.bare n d->Dn K M H d v->Dn K M' H d v:=by
 intro n
 induction n with
 | zero=>intro d v hf h; cases d <;> first | exact h | exact hf.elim
 | succ n ih=>
  intro d v hf h;cases d with
  | tup ds=>
   obtain⟨a,xs,e,s,r⟩:=h;exact⟨a,xs,e,s,cU.map1 (fun d hd v=>ih (hf d hd)) r⟩
  | ins C ns ds=>
   obtain⟨a,dx,fs,e,s,hn,r⟩:=h;exact⟨a,dx,fs,e,s,hn,cU.map1 (fun d hd v=>ih (hf d hd)) r⟩
  | non=>exact h
  | bl _=>exact h
  | int _=>exact h
  | str _=>exact h
  | _=>exact hf.elim
theorem Hw(σ:St)(i:Nat):σ.set i (σ[i]?).join=σ:=by
 apply e7;intro j;rw [eZ]
 split
 ·rename_i e;subst e
  split
  ·rename_i h;rw [ak h];rfl
  ·rename_i h;rw [bp (vB h)]
 ·rfl
section
variable {K:Frag}{M:MP}{H:Hp}{a b:ai}{o:Obj}{xs ys:List V}
theorem IK(ha:H a=some (.frz o (.lst xs)))(h:Rd H b (.lst ys)):Rd (upd H a (.lst xs)) b (.lst ys):=by
 by_cases hb:b=a
 ·subst hb
  rcases h with h | ⟨o',h⟩
  ·rw [ha]at h; cases h
  ·rw [ha]at h; cases h; exact .inl bI
 ·rcases h with h | ⟨o',h⟩
  ·exact .inl (by rw [b8 hb]; exact h)
  ·exact .inr ⟨o',by rw [b8 hb]; exact h⟩
theorem zE(ha:H a=some (.frz o (.lst xs)))(h:k9 K H b ys):k9 K (upd H a (.lst xs)) b ys:=by
 rcases h with(h | ⟨o',h⟩) | h
 ·exact .inl (.inl (by rw [b8 fun z=>by rw [z,ha]at h; cases h]; exact h))
 ·exact .inl (.inr ⟨o',by rw [b8 fun z=>by rw [z,ha]at h; cases h]; exact h⟩)
 ·exact .inr h
theorem GI(ha:H a=some (.frz o (.lst xs)))(h:Ks K M H b ys):Ks K M (upd H a (.lst xs)) b ys:=by
 rcases h with⟨h,m⟩ | h
 ·exact .inl ⟨IK ha h,m⟩
 ·exact .inr h
mutual
theorem Dn.vR(ha:H a=some (.frz o (.lst xs))): ∀{d:D} {v:V},Dn K M H d v->Dn K M (upd H a (.lst xs)) d v
 | .non,_,x=>x
 | .bl _,_,x=>x
 | .int _,_,x=>x
 | .str _,_,x=>x
 | .tup ds,_,⟨b,ys,e,s,r⟩=>⟨b,ys,e,zE ha s,cU.vR ha r⟩
 | .lst ds,_,⟨b,ys,e,s,r⟩=>⟨b,ys,e,GI ha s,cU.vR ha r⟩
 | .ins _ _ ds,_,⟨b,dx,fs,e,s,n,r⟩=>⟨b,dx,fs,e,by rw [b8 fun z=>by rw [z,ha]at s; cases s]; exact s,n,cU.vR ha r⟩
 | .exc C,_,⟨b,e,s⟩=>⟨b,e,by rw [b8 fun z=>by rw [z,ha]at s; cases s]; exact s⟩
 | .dct _ _ _,_,⟨b,bs,e,s,l1,l2,r⟩=>⟨b,bs,e,s.imp fun _ ⟨eo,s⟩=>⟨eo,by rw [b8 fun z=>by rw [z,ha]at s; cases s]; exact s⟩,l1,l2,cU.vR ha r⟩
theorem cU.vR(ha:H a=some (.frz o (.lst xs))): ∀{ds:List D} {vs:List V},cU K M H ds vs->cU K M (upd H a (.lst xs)) ds vs
 | [],_,x=>x
 | _::_,_,⟨v,r,e,p,q⟩=>⟨v,r,e,Dn.vR ha p,cU.vR ha q⟩
end
end
section
variable {X:Cx}{ρ:fB}{M0:MP}{H0 H H':Hp}{γ:List (D×V)}{α:Nat->ai}{σ:St}{En:Ends}{ny s1 body:List cF}{e c tg:Expr}{es:List Expr}{d:D}{pos p pos':Pos}{CX:k_}{k:Nat}{x:Str}{ι:Type}{args:ι->List D}{pre:ι->Prop}{res:ι->Except ai D}{Q:VK}
theorem Ml{i:ι}(F:j6 X.prog X.w X.K X.mg X.base CX k x args pre res)(hr:eW k X.A)(hx:Passes CX X E0)(hg:Gl X x)(ha:aU X ρ (e::es) (args i))(hb: ∀d∈args i,D.bare 9 d)(hp:pre i)(md:res i= .ok d)(R:Rep X.K M0 H0 γ α ρ σ H)
  (kk: ∀v H',bQ H H'->Dn X.K (fun a=>H a≠none) H' d v->Q v H')(p9:(x==("__debug__":Str))=false:=by decide)
  (he:ax (e::es) X.env=(false,bV e X.env)::ax es X.env:=by rfl)(hpl:(fc pos (ax es X.env)).any (·.1)=false:=by rfl):tE X (.Call (.Name x p) (e::es) [] pos) σ H Q:=by
 obtain⟨f,fd,ps,F,hm,hk,ki⟩:=F.ex;refine(sQ F hr hg hm hk ki .nil hx xV p9 he hpl).to (ha M0 H0 γ α σ H _ R fun vs H1 s1 d1=> ?_);show nX X.K args pre res (vs ++ []) H1 Q E0;rw [bz];refine⟨i,fun a=>H1 a≠none,fun a z=>z,cU.map1 (fun d hd v=>Dn.bare 9 (hb d hd)) d1,hp,fun d' e v H2 s2 dn=> ?_,fun C e=>by rw [md]at e; cases e⟩;rw [md]at e;cases e;exact kk v H2 (s1.trans s2) (dn.less fun a z w=>z (s1.free w))
theorem vR{a:ai}{o:Obj}{xs:List V}(h0:X.H₀ a=none)(ha:H a=some (.frz o (.lst xs)))(h:mi X ny En σ (upd H a (.lst xs))):mi X ny En σ H:=fun pins s I=>by
 refine h pins s ?_;have na: ∀b,H b=none->b≠a:=fun b n z=>by rw [z,ha]at n; cases n
 refine⟨I.ok,I.os,I.bare,⟨I.base.keep,I.base.slot,fun b o q n hx=> ?_,I.base.there,fun b xs q=> ?_,fun b o u q=> ?_,fun b ps q=> ?_⟩,I.loc,I.cell, ?_,fun x c e=> ?_,fun p hp=> ?_,fun b u q=> ?_,I.len⟩
 ·have:=I.base.free b o q n hx;rw [b8 (na b this)]; exact this
 ·have:=I.base.wc b xs q;rw [b8 fun z=>by rw [z,ha]at this; cases this]; exact this
 ·have:=I.base.ud b o u q;rw [b8 fun z=>by rw [z,h0]at q; cases q]; exact this
 ·obtain⟨more,this⟩:=I.base.wa b ps q;exact⟨more,by rw [b8 fun z=>by rw [z,ha]at this; cases this]; exact this⟩
 ·rw [b8 (na _ I.free)]; exact I.free
 ·rw [b8 (na _ (I.mV x c e))]; exact I.mV x c e
 ·obtain⟨e,n,ne,nf,d⟩:=I.pin p hp;exact⟨e,by rw [b8 (na _ n)]; exact n,ne,nf,d⟩
 ·have stay: ∀{u:HO},fJ X.prog X.w H s.heap b u->fJ X.prog X.w (upd H a (.lst xs)) s.heap b u:=fun x=>x.stay (fun c v _ z=>z) (fun c z=>by rw [b8 fun w=>by rw [w,ha]at z; cases z]; exact z) fun c ys z=>by rw [b8 fun w=>by rw [w,ha]at z; cases z]; exact z
  by_cases hba:b=a
  ·subst hba;rw [bI]at q;cases q;have y:fJ X.prog X.w H s.heap b (.frz o (.lst xs)):=I.fb b _ ha;exact stay y.2
  ·rw [b8 hba]at q;exact stay (I.fb b u q)
theorem Rep.updNew{K:Frag}{a:ai}{xs ys:List V}(r:Rep K M0 H0 γ α ρ σ H)(ha:H a=none)(s:bQ H H')(h':H' a=some (.lst xs)):Rep K M0 H0 γ α ρ σ (upd H' a (.lst ys)):=by
 have kp:q8 (fun b=>MM M0 ρ α b\/b=a) H' (upd H' a (.lst ys)):=fun b o e n=>by
  by_cases hb:b=a
  ·subst hb;rw [h']at e; cases e;exact absurd (.inr rfl) (n _ rfl)
  ·rw [b8 hb]; exact e
 have mv: ∀{d:D} {v:V},Dn K (MM M0 ρ α) H d v->Dn K (MM M0 ρ α) (upd H' a (.lst ys)) d v:=fun h=>(((h.re fun b m=>m.elim .inl fun z=> .inr (by rw [z]; exact ha)).same s).keep kp).less fun b m=> .inl m;have Zl: ∀{d:List D} {v:List V},cU K (MM M0 ρ α) H d v->cU K (MM M0 ρ α) (upd H' a (.lst ys)) d v:=fun h=>(((h.re fun b m=>m.elim .inl fun z=> .inr (by rw [z]; exact ha)).same s).keep kp).less fun b m=> .inl m;refine⟨fM (r.same.trans s) (r.same.free ha),r.old,r.inj,fun i d e=> ?_,fun i ds e=> ?_,fun p hp=>mv (r.gh p hp),r.len⟩
 ·obtain⟨v,h1,h2⟩:=r.im i d e;exact⟨v,h1,mv h2⟩
 ·obtain⟨h1,h2,zs,h3,h4⟩:=r.mu i ds e;refine⟨h1,h2,zs, ?_,Zl h4⟩;rw [b8 fun z=>by rw [z,ha]at h3; cases h3];exact s _ _ h3
theorem OW{i:ι}{j:Nat}{y:Str}{J_:Pos}(hN:X.N.Nodup)(hj:X.N[j]? =some y)(hy:Loc X.env.scope y)(F:j6 X.prog X.w X.K X.mg X.base CX k x args pre res)(hr:eW k X.A)(hx:Passes CX X E0)(hg:Gl X x)(ha:aU X ρ (e::es) (args i))(hb: ∀d∈args i,D.bare 9 d)(hp:pre i)(md:res i= .ok d)(R:Rep X.K M0 H0 γ α ρ σ H)
  (kk: ∀v H',bQ H H'->Dn X.K (fun a=>H a≠none) H' d v->En.nx (σ.set j (some v)) H')(hs:cu (.Call (.Name x p) (e::es) [] pos') (some (.Name y pos)) J_.line X.env=pure false:=by rfl)(hf:X.fn y=true\/X.env.scope.names.lookup y=some .local:=by first | exact .inl rfl | exact .inr rfl | assumption)(p9:(x==("__debug__":Str))=false:=by decide)
  (he:ax (e::es) X.env=(false,bV e X.env)::ax es X.env:=by rfl)(hpl:(fc pos' (ax es X.env)).any (·.1)=false:=by rfl):tS X (.Assign [.Name y pos] (.Call (.Name x p) (e::es) [] pos') J_) En σ H:=
 (nB hN hj hy iE hs hf).to (Ml F hr hx hg ha hb hp md R kk p9 he hpl)
theorem P_(h:cg X ρ c false)(R:Rep X.K M0 H0 γ α ρ σ H)(k: ∀H',bQ H H'->mi X ny En σ H'):mi X (.If c s1 [] pos::ny) En σ H:=
 (dh rV gr).to (t_ h R k)
end
section
variable {K:Frag}{h:aY}{mg:Str->Option af}{x:Str}{C D0:ai}{tl:List af}{SE:String}
theorem Mo(ok:km K C tl SE=true): ∃nm q N bs bm hdct sn sub ab col dd k0 k1 k2 k3 k5,K.lookup C=some (excClassObj nm q C N bs bm hdct sn sub ab col dd k0 k1 k2 k3 k5 SE)/\PySem.W.tailIn K tl bm=true/\PySem.W.nsOkIn K N=true/\gM K N "__init__"=some none:=by
 unfold km at ok
 split at ok
 case h_2=>cases ok
 rename_i dct cdat slots look
 split at ok
 case h_2=>cases ok
 rename_i C2 above s0 s1 s2 s3 bid s5 em es;simp only [g6,bN,beq_iff_eq]at ok;obtain⟨⟨⟨⟨⟨w1,w2⟩,w3⟩,w4⟩,w5⟩,w6⟩:=ok;subst w1 w2;obtain⟨v1,v2,v3,v4,v5,v6,v7,v8,v9,v10,v11⟩:=cdat;dsimp only at em w3 w5 w6;subst em w3;obtain⟨sl⟩:=slots;have qS:sl= [s0,s1,s2,s3,some (.builtin bid),s5]:=es;subst qS;exact⟨v1,v5,v4,v2,above,v6,v7,v8,v9,v10,dct,s0,s1,s2,s3,s5,look,w4,w5,w6⟩
theorem Fd(Ga:K.In h)(MG:mg x=some (.ref C))(ok:km K C tl SE=true):OwnCls x C tl SE mg h:=by
 obtain⟨nm,q,N,bs,bm,hdct,sn,sub,ab,col,dd,k0,k1,k2,k3,k5,look,w4,w5,w6⟩:=Mo ok;exact⟨MG,bm,N,nm,q,bs,hdct,sn,sub,ab,col,dd,k0,k1,k2,k3,k5,_,Ga _ _ look, .of_isNs (PySem.W.isNs_of_in Ga w5),PySem.W.nsMap_none_of_in Ga w5 w6,PySem.W.tail_of_in Ga w4⟩
theorem yo(Ga:K.In h)(MG:mg x=some (.ref C))(ok:km K C EA "ValueError.__new__"=true):AB x C mg h:=
 ⟨_,_,_,_,Fd Ga MG ok,za,by decide +kernel⟩
end
def MX(K:Frag):Bool:=K.all fun p=> !(p.2.cls== .type "list")
theorem Ia{K:Frag}(e:MX K=true)(a:ai)(xs:List V): ¬Ma K a xs:=fun⟨o,its,n,lk,hc,_⟩=>by
 have:=nh.mp e (a,o) (PySem.W.mem_of_lookupK lk);dsimp only at this;rw [hc]at this
 revert this
 decide +kernel
theorem HQ{l:NL}{q:aH}{loose:List Str}{XP:(Str->Option af)->aY->Prop}{YP:aW->aY->Prop}{d:DefRec}{K:Params->Frag}{k:Nat}(hr:eW k sD)(hn:l.most=some 63)(Rj:d.params.defaults= [])
  (hY: ∀(w:aW) (h:aY),YP w h->(K w.params).In h)
  (F: ∀(w:aW) (mg:Str->Option af) (fa:ai) (h:aY),(K w.params).In h->h.Ns cz mg->mg d.name=some (.ref fa)->
   ∃fd:bb,(∀(s:aj) (u:af),BindsTo s fd ⟨[u], []⟩ [("script",u)])/\ ∀base:aY,(K w.params).In base->base.Ns cz mg->mZ l.prog w (K w.params) mg base (fP l.prog w) k fa fd ["script"] (Dm (K w.params))):
  PySem.W.WalkO q loose XP YP l.row.toRowW d [] (fun f vs=>PySem.call f vs):=
 L2.LV (n:=63) (k:=k) (x:="script") (CX:=fun w=>fP l.prog w) (sp:=fun w=>Dm (K w.params)) hn (by decide) Rj hr hY F (fun w H a ns hl _ hS=>by
  refine⟨ns,PB,fun _ z=>z.elim,⟨.ref a, [],rfl,⟨a,ns.map V.int,rfl, ?_,cU.of_ints ns⟩,rfl⟩,hl,fun d' e v H' _ dn=> ?_,fun C e=>by cases e⟩
  ·rcases hS with s | s
   ·exact .inl ⟨s,fun z=>z⟩
   ·exact .inr s
  ·cases e;exact dn) fun w H s e s' z=>kG [] H s e s' z
section
variable {K:Frag}{M0:MP}{H0 Hs H:Hp}{γ:List (D×V)}{α:Nat->ai}{ρ:fB}{σ:St}{D0 l:ai}{as:List ai}{rows:List (List Int)}{o:HO}
theorem Rep.view{i:Nat}{d:D}{v:V}(r:Rep K M0 H0 γ α ρ σ H)(hi:i < ρ.length)(CK:σ[i]? =some (some v))(h:Dn K (MM M0 ρ α) H d v):Rep K M0 H0 γ α (ρ.set i (.im d)) σ H:=by
 have e:σ.set i (some v)=σ:=by
  have:=Hw σ i;rw [CK]at this;exact this
 have h':=r.set_im hi h
 rwa [e]at h'
end
section
variable {X:Cx}{ρ:fB}{M0:MP}{H0 Hs H:Hp}{γ:List (D×V)}{α:Nat->ai}{σ:St}{En:Ends}{body:List cF}{b e tg:Expr}{d:D}{ds:List D}{pos p1 p2 p3 p4:Pos}{x:Str}{i:Nat}{D0 l:ai}{as:List ai}{rows:List (List Int)}{xs:List V}
theorem Qf(hi:X.N[i]? =some x)(hv:yn X.env.scope x)(R:Rep X.K M0 H0 γ α ρ σ H)(CK:σ[i]? =some (some (.ref l)))(hl:H l=some (.lst xs))(hz:xs.length < 1000000)(he:ar X ρ e d)
  (q: ∀H1 v,bQ H H1->Dn X.K (MM M0 ρ α) H1 d v->En.nx σ (upd H1 l (.lst (xs ++ [v]))))(mc:N7 X (.Name x p1) "append" e p2 p3)(hd:(x==("__debug__":Str))=false:=by decide)(kc:(x==("__classdict__":Str))=false:=by decide)
  (CV:cu (.Call (.Attribute (.Name x p1) "append" p2) [e] [] p3) none pos.line X.env=pure false:=by rfl):tS X (.Expr (.Call (.Attribute (.Name x p1) "append" p2) [e] [] p3) pos) En σ H:=by
 obtain⟨m1,m2,m3,m4⟩:=mc;refine(oQ (DF jg Be Bf lW (lC hi hv hd kc) xV m1 m2 m3 m4 rfl) CV).to ?_;refine⟨_,CK, .inl ⟨rfl,_,o6.of hl⟩,(aU.cons he aU.nil m4) M0 H0 γ α σ H _ R fun vs H1 s y=> ?_⟩;obtain⟨v,r,rfl,e1,e2⟩:=y;cases e2;exact⟨l,xs,v,rfl,rfl,s _ _ hl,xG hz,q H1 v s e1⟩
end
end Z
namespace Z
open PySem PySem.Spec PySem.W PyProof.Rows
section
variable {Ky:Type}
open Classical in
noncomputable def uF (pr:List (af×Ky)) (v:af):Option Ky:=if h: ∃k,(v,k)∈pr then some h.choose else none
theorem yj{pr:List (af×Ky)}(nv:(pr.map (·.1)).Nodup){v:af}{k:Ky}(h:(v,k)∈pr):uF pr v=some k:=by
 have hx: ∃k,(v,k)∈pr:=⟨k,h⟩;unfold uF;rw [dif_pos hx];have h2:=hx.choose_spec;generalize hx.choose=k' at h2;obtain⟨i,hi,e1⟩:=aT.mp h;obtain⟨j,hj,e2⟩:=aT.mp h2;have:i=j:=by
  refine(m_ (xs:=pr.map (·.1)) (h₀:=by rw [ae]; exact hi) (h₁:=by rw [ae]; exact hj) nv).mp ?_;rw [a8,a8,e1,e2]
 subst this;rw [e1]at e2;exact congrArg some (k7.mp e2).2.symm
noncomputable def L4 (lt:Ky->Ky->Bool) (pr:List (af×Ky)) (x y:Kd):Bool:=match uF pr x.1,uF pr y.1 with
 | some a,some b=>lt a b
 | _,_=>false
structure nM(lt:Ky->Ky->Bool):Prop where
 tot: ∀x y,x≠y->lt x y=false->lt y x=true
 IX: ∀x y,lt x y=true->lt y x=false
 tr: ∀x y z,lt x y=true->lt y z=true->lt x z=true
def Tt(pr:List (af×Ky))(x:Kd):Prop:= ∃k,(x.1,k)∈pr/\x.2=x.1
theorem yy{lt:Ky->Ky->Bool}{pr:List (af×Ky)}(nv:(pr.map (·.1)).Nodup){u v:af}{a b:Ky}(h:(u,a)∈pr)(h':(v,b)∈pr)(u2 v2:af):L4 lt pr (u,u2) (v,v2)=lt a b:=by
 unfold L4;rw [yj nv h,yj nv h']
theorem TC{lt:Ky->Ky->Bool}(o:nM lt){pr:List (af×Ky)}(nv:(pr.map (·.1)).Nodup)(nk:(pr.map (·.2)).Nodup):nC (Tt pr) (L4 lt pr):=by
 refine⟨fun x y ⟨a,ha,ea⟩ ⟨b,hb,eb⟩ ja e=> ?_,fun x y e=> ?_,fun x y z e1 e2=> ?_⟩
 ·obtain⟨x1,x2⟩:=x;obtain⟨y1,y2⟩:=y;rw [yy nv ha hb]at e;rw [yy nv hb ha];refine o.tot a b (fun z=>ja ?_) e;obtain⟨i,hi,e1⟩:=aT.mp ha;obtain⟨j,hj,e2⟩:=aT.mp hb;have:i=j:=by
   refine(m_ (xs:=pr.map (·.2)) (h₀:=by rw [ae]; exact hi) (h₁:=by rw [ae]; exact hj) nk).mp ?_;rw [a8,a8,e1,e2];exact z
  subst this;rw [e1]at e2;have h1:x1=y1:=(k7.mp e2).1;have ea:x2=x1:=ea;have eb:y2=y1:=eb;rw [ea,eb,h1]
 ·unfold L4 at e ⊢;cases h1:uF pr x.1 with
  | none=>rw [h1]at e; cases e
  | some a=>
   cases h2:uF pr y.1 with
   | none=>exact absurd e (by rw [h1,h2]; exact aG)
   | some b=>rw [h1,h2]at e; exact o.IX _ _ e
 ·unfold L4 at e1 e2 ⊢;cases h1:uF pr x.1 with
  | none=>rw [h1]at e1; cases e1
  | some a=>
   cases h2:uF pr y.1 with
   | none=>rw [h1,h2]at e1; cases e1
   | some b=>
    cases h3:uF pr z.1 with
    | none=>exact absurd e2 (by rw [h2,h3]; exact aG)
    | some c=>
     rw [h1,h2]at e1;rw [h2,h3]at e2;exact o.tr _ _ _ e1 e2
def j0(lt:Ky->Ky->Bool)(pr:List (af×Ky))(out:List af):Prop:= ∃q:List (af×Ky),q.Perm pr/\q.map (·.1)=out/\q.Pairwise (fun a b=>lt a.2 b.2=true)
theorem E_{lt:Ky->Ky->Bool}{pr:List (af×Ky)}(nv:(pr.map (·.1)).Nodup){l:List Kd}(hp:l.Perm (pr.map fun x=>(x.1,x.1)))(hs:lR (L4 lt pr) l):j0 lt pr (l.map (·.2)):=by
 have key: ∀l:List Kd,(∀x∈l,Tt pr x)->lR (L4 lt pr) l-> ∃q:List (af×Ky),q.map (fun x=>(x.1,x.1))=l/\(∀x∈q,x∈pr)/\q.Pairwise (fun a b=>lt a.2 b.2=true):=by
  intro l
  induction l with
  | nil=>intro _ _; exact⟨[],rfl,fun x hx=>absurd hx gB,eY⟩
  | cons x l ih=>
   intro h1 h2;obtain⟨q,e,hm,hq⟩:=ih (fun y hy=>h1 y (.tail _ hy)) (cD.mp h2).2;obtain⟨k,hk,ek⟩:=h1 x (.head _);refine⟨(x.1,k)::q, ?_,fun y hy=> ?_,cD.mpr ⟨fun y hy=> ?_,hq⟩⟩
   ·rw [a9,e];obtain⟨x1,x2⟩:=x;have ek:x2=x1:=ek;rw [ek]
   ·rcases aV.mp hy with rfl | hy
    ·exact hk
    ·exact hm y hy
   ·have:=(cD.mp h2).1 (y.1,y.1) (by rw [<-e]; exact aE.mpr ⟨y,hy,rfl⟩);have e2:=yy (lt:=lt) nv hk (hm y hy) x.2 y.1;rw [<-e2];exact this
 obtain⟨q,e,hm,hq⟩:=key l (fun x hx=>by
  obtain⟨p,qU,rfl⟩:=aE.mp (hp.mem_iff.mp hx);exact⟨p.2,qU,rfl⟩) hs
 refine⟨q, ?_,by rw [<-e,cH]; rfl,hq⟩;have h1:(q.map fun x=>(x.1,x.1)).Perm (pr.map fun x=>(x.1,x.1)):=by rw [e]; exact hp
 have h2:(q.map (·.1)).Perm (pr.map (·.1)):=by
  have:=h1.map (fun x:af×af=>x.1);rw [cH,cH]at this;exact this
 have back: ∀l:List (af×Ky),(∀x∈l,x∈pr)->(l.map (·.1)).filterMap (fun v=>(uF pr v).map fun k=>(v,k))=l:=by
  intro l
  induction l with
  | nil=>intro _; rfl
  | cons x l ih=>
   intro h;rw [a9,kT,yj nv (show(x.1,x.2)∈pr from h x (.head _)),ih fun y hy=>h y (.tail _ hy)];rfl
 have:=h2.filterMap (fun v=>(uF pr v).map fun k=>(v,k));rw [back q hm,back pr fun x hx=>hx]at this;exact this
end
section
variable {prog:aH}{w:aW}{A:bA}{E:af->aj->Prop}{s:aj}{Ky:Type}
theorem ug{lt:Ky->Ky->Bool}{κ:kz}{a:ai}{pr:List (af×Ky)}{vs:List af}(Vg:vs=pr.map (·.1))(o:nM lt)(nv:(pr.map (·.1)).Nodup)(nk:(pr.map (·.2)).Nodup){n:Nat}{P:vF->aj->Prop}(ho:s.heap.get? a=some (cV "list" vs.toArray n))(hl:vs.length<=sizeLine)
  (kd:2<=vs.length-> ∀(h':aY) (Q:kz->aj->Prop),(∀b ob,b≠a->s.heap.get? b=some ob->h'.get? b=some ob)->Q κ {s with heap:=h'}->av (aC prog w) A (keyKind' vs.toArray) Q E {s with heap:=h'})
  (sy: ∀(h':aY),(∀b ob,b≠a->s.heap.get? b=some ob->h'.get? b=some ob)-> ∀x∈pr, ∀y∈pr, ∀Q:Bool->aj->Prop,Q (lt x.2 y.2) {s with heap:=h'}->av (aC prog w) A (keyLt' κ x.1 y.1) Q (fun _ _=>False) {s with heap:=h'})
  (h: ∀(h':aY) (out:List af) (c:Nat),j0 lt pr out->h'.get? a=some (cV "list" out.toArray c)->(∀b ob,b≠a->s.heap.get? b=some ob->h'.get? b=some ob)->P (.done (.ret .none)) {s with heap:=h'}):
  av (aC prog w) A (dH.«list.sort» ⟨[.ref a], []⟩) P E s:=by
 have s1:=bG s.heap a (dP fun _=>(#[]:Array af));obtain⟨e1,Xi⟩: ∃e1,(s.heap.update a (dP fun _=>(#[]:Array af))).get? a=some (cV "list" #[] e1):=⟨_,fR ho fun _=> #[]⟩;rw [list_sort_plain];refine aa (listItems_at ho rfl ?_);refine aa (iS ho rfl ?_ (by rw [aD]; exact hl) (bK _));refine aa (seqEpoch_at Xi rfl ?_);refine aa (y_ ?_ (by show vs.length<=_; exact hl));refine aa (Bp ?_ (bK _));refine bP ?_;have SG:(((s.heap.update a (dP fun _=>(#[]:Array af))).push (cV "tuple" vs.toArray 0)).push (cV "list" #[] 0)).get? a=some (cV "list" #[] e1):=ah _ (ah _ Xi);have J0: ∀b ob,b≠a->s.heap.get? b=some ob->(((s.heap.update a (dP fun _=>(#[]:Array af))).push (cV "tuple" vs.toArray 0)).push (cV "list" #[] 0)).get? b=some ob:=fun b ob hb e=>ah _ (ah _ ((s1.2 b hb).trans e));show av (aC prog w) A _ P E {s with heap:=((s.heap.update a (dP fun _=>(#[]:Array af))).push (cV "tuple" vs.toArray 0)).push (cV "list" #[] 0)};generalize ((s.heap.update a (dP fun _=>(#[]:Array af))).push (cV "tuple" vs.toArray 0)).push (cV "list" #[] 0)=H3 at SG J0;have XE:vs.length=pr.length:=by rw [Vg,ae]
 dsimp only;have tail: ∀(out:List af) (st:cp) (R:vF->aj->Prop),out.length=vs.length->(br st).map (·.2)=ox out->ik st=none->(∀(h':aY) (c:Nat),h'.get? a=some (cV "list" out.toArray c)->(∀b ob,b≠a->s.heap.get? b=some ob->h'.get? b=some ob)->R (.done (.ret .none)) {s with heap:=h'})->
   av (aC prog w) A (do
    let touched:=(<-seqEpoch a) !=e1
    Builtin.List.listUpdate (.ref a) fun _=>(br st).map (·.2)
    if let some e:=ik st then rule "list.sort.comparison-raised"; throw e
    if touched then rule "list.sort.modified"; raiseError "ValueError" "list modified during sort"
    ret .none) R E {s with heap:=H3}:=by
  intro out st R hp Kc hf hR;have hsz:(ox out).size=vs.length:=by rw [aD,hp]
  rw [Kc];have s2:=bG H3 a (dP fun _=>ox out);obtain⟨c2,Ef⟩: ∃c2,(H3.update a (dP fun _=>ox out)).get? a=some (cV "list" (ox out) c2):=⟨_,fR SG fun _=>ox out⟩;refine aa (seqEpoch_at SG rfl ?_);refine aa (iS SG rfl ?_ (bK _) (bg (oj hsz) (Nat.le_succ_of_le hl)));rw [hf];simp only [bne_self_eq_false,aZ,if_false];exact ag (hR _ c2 Ef fun b ob hb e=>(s2.2 b hb).trans (J0 b ob hb e))
 have zz:(vs.toArray.zip vs.toArray).toList=pr.map fun x=>(x.1,x.1):=by
  rw [Array.toList_zip];show vs.zip vs=_;rw [Vg,List.zip_map']
 by_cases h2:vs.length < 2
 ·have Eh:vs.toArray.size < 2:=by rw [aD]; exact h2
  rw [if_pos Eh,if_pos Eh];refine aa (ag ?_);refine aa ?_;rw [StateT.run_pure];refine ag ?_;dsimp only;refine tail vs _ P rfl ?_ rfl fun h' c h3 h4=>h h' vs c ⟨pr,dC _,Vg.symm, ?_⟩ h3 h4
  ·show(vs.toArray.zip vs.toArray).map (·.2)=_;apply nt.mp;rw [Array.toList_map,Array.toList_zip];exact nu (ay _)
  ·match pr,XE with
   | [],_=>exact eY
   | [q],_=>exact BL _ _
   | _::_::_,z=>simp at z; omega
 ·have Eh: ¬vs.toArray.size < 2:=by rw [aD]; exact h2
  rw [if_neg Eh,if_neg Eh];refine aa (kd (by omega) H3 _ J0 ?_);have Zp:(pr.map fun x=>(x.1,x.1)).Nodup:=by
   have:(pr.map fun x=>(x.1,x.1))=(pr.map (·.1)).map fun v=>(v,v):=by rw [cH]; rfl
   rw [this];exact List.Pairwise.map _ (fun a b qV z=>qV (k7.mp z).1) nv
  refine aa (b_ (HD (s:={s with heap:=H3}) (κ:=κ) (S:=Tt pr) (lt:=L4 lt pr) (a0:=pr.map fun x=>(x.1,x.1)) (st:=SortSt.mk' κ (vs.toArray.zip vs.toArray) #[] 7 none)
   (Q:=fun _ cq=>ik cq=none/\(br cq).toList.Perm (pr.map fun x=>(x.1,x.1))/\lR (L4 lt pr) (br cq).toList)
   (TC o nv nk) ?says Zp (fun x hx=> ?mem) rfl rfl rfl zz fun cq a1 a2 a3=>⟨a1,a2,a3⟩) ?_ fun _ _ e=>e)
  case says=>
   rintro⟨x1,x2⟩ ⟨y1,y2⟩ Q ⟨ka,ha,ea⟩ ⟨kb,hb,eb⟩ hQ;rw [yy nv ha hb]at hQ;exact sy H3 J0 (x1,ka) ha (y1,kb) hb Q hQ
  case mem=>
   obtain⟨p,hp,rfl⟩:=aE.mp hx;exact⟨p.2,hp,rfl⟩
  rintro⟨⟨⟩,cq⟩ s' ⟨rfl,hf,hp,hs⟩;dsimp only;have so:=E_ nv hp hs;have hlen:((br cq).toList.map (·.2)).length=vs.length:=by rw [ae,hp.length_eq,ae,XE]
  refine tail _ cq P hlen ?_ hf fun h' c h3 h4=>h h' _ c so h3 h4;apply nt.mp;rw [Array.toList_map]
end
def qB{α:Type} [DecidableEq α](lt:α->α->Bool):List α->List α->Bool
 | a::as,b::bs=>if a=b then qB lt as bs else lt a b
 | [],_::_=>true
 | _, []=>false
section
variable {α:Type} [DecidableEq α]{lt:α->α->Bool}
theorem z8(o:nM lt): ∀(a b:List α),a≠b->qB lt a b=false->qB lt b a=true
 | [], [],h,_=>absurd rfl h
 | [],_::_,_,h=>by cases h
 | _::_, [],_,_=>rfl
 | a::as,b::bs,h,e=>by
  unfold qB at e ⊢
  by_cases qV:a=b
  ·rw [if_pos qV]at e;rw [if_pos qV.symm];exact z8 o as bs (fun z=>h (by rw [qV,z])) e
  ·rw [if_neg qV]at e;rw [if_neg fun z=>qV z.symm];exact o.tot a b qV e
theorem Af(o:nM lt): ∀(a b:List α),qB lt a b=true->qB lt b a=false
 | [], [],h=>by cases h
 | [],_::_,_=>rfl
 | _::_, [],h=>by cases h
 | a::as,b::bs,e=>by
  unfold qB at e ⊢
  by_cases qV:a=b
  ·rw [if_pos qV]at e;rw [if_pos qV.symm];exact Af o as bs e
  ·rw [if_neg qV]at e;rw [if_neg fun z=>qV z.symm];exact o.IX a b e
theorem DH(o:nM lt): ∀(a b c:List α),qB lt a b=true->qB lt b c=true->qB lt a c=true
 | [],_,_::_,_,_=>rfl
 | _, [], [],_,h=>by cases h
 | _,_::_, [],_,h=>by cases h
 | _::_, [],_::_,h,_=>by cases h
 | a::as,b::bs,c::cs,h1,h2=>by
  unfold qB at h1 h2 ⊢
  by_cases qV:a=b
  ·subst qV;rw [if_pos rfl]at h1
   by_cases hac:a=c
   ·rw [if_pos hac]at h2 ⊢;exact DH o as bs cs h1 h2
   ·rw [if_neg hac]at h2 ⊢;exact h2
  ·rw [if_neg qV]at h1
   by_cases hbc:b=c
   ·subst hbc;rw [if_neg qV];exact h1
   ·rw [if_neg hbc]at h2;have:=o.tr a b c h1 h2
    by_cases hac:a=c
    ·subst hac;rw [o.IX a b h1]at h2;cases h2
    ·rw [if_neg hac];exact this
theorem nM.lex(o:nM lt):nM (qB lt):=⟨z8 o,Af o,DH o⟩
end
def ltI(a b:Int):Bool:=decide (a < b)
theorem zm:nM ltI:=⟨fun x y h e=>decide_eq_true (by have:=of_decide_eq_false e; omega),fun x y e=>decide_eq_false (by have:=of_decide_eq_true e; omega),fun x y z e1 e2=>decide_eq_true (by have:=of_decide_eq_true e1; have:=of_decide_eq_true e2; omega)⟩
abbrev zt:List Int->List Int->Bool:=qB ltI
abbrev jQ:gH->gH->Bool:=qB zt
theorem zG:nM jQ:=zm.lex.lex
def mB(a b:gH×Int):Bool:=if a.1=b.1 then ltI a.2 b.2 else jQ a.1 b.1
theorem Qy:nM mB:=by
 refine⟨fun x y h e=> ?_,fun x y e=> ?_,fun x y z e1 e2=> ?_⟩
 ·unfold mB at e ⊢
  by_cases q:x.1=y.1
  ·rw [if_pos q]at e;rw [if_pos q.symm];exact zm.tot _ _ (fun z=>h (Prod.ext q z)) e
  ·rw [if_neg q]at e;rw [if_neg fun z=>q z.symm];exact zG.tot _ _ q e
 ·unfold mB at e ⊢
  by_cases q:x.1=y.1
  ·rw [if_pos q]at e;rw [if_pos q.symm];exact zm.IX _ _ e
  ·rw [if_neg q]at e;rw [if_neg fun z=>q z.symm];exact zG.IX _ _ e
 ·obtain⟨a,i⟩:=x;obtain⟨b,j⟩:=y;obtain⟨c,k⟩:=z;unfold mB at e1 e2 ⊢;dsimp only at e1 e2 ⊢
  by_cases qV:a=b
  ·subst qV;rw [if_pos rfl]at e1
   by_cases hac:a=c
   ·rw [if_pos hac]at e2 ⊢;exact zm.tr _ _ _ e1 e2
   ·rw [if_neg hac]at e2 ⊢;exact e2
  ·rw [if_neg qV]at e1
   by_cases hbc:b=c
   ·subst hbc;rw [if_neg qV];exact e1
   ·rw [if_neg hbc]at e2
    by_cases hac:a=c
    ·subst hac;rw [zG.IX a b e1]at e2;cases e2
    ·rw [if_neg hac];exact zG.tr a b c e1 e2
theorem zw: ∀a b:List Int,HT.lexLt a b=zt a b
 | [], []=>rfl
 | [],_::_=>rfl
 | _::_, []=>rfl
 | a::as,b::bs=>by
  rw [HT.uo];show _=if a=b then zt as bs else decide (a < b);rw [zw as bs]
section
variable {prog:aH}{w:aW}{A:bA}{E:af->aj->Prop}{s:aj}
theorem DP{h:aY}{r:List Int}{b:ai}(x:T1 prog w h r b): ∃items:Array af,IsTup h b items/\jy items.toList r:=by
 obtain⟨o,items,n,h1,h2,h3,h4⟩:=x;refine⟨items,⟨o,h1,h2,n,h3⟩, ?_⟩;generalize items.toList=l at h4
 induction h4 with
 | nil=>exact .nil
 | cons a t ih=>
  obtain⟨tk,rfl⟩:=ml a;exact .cons _ tk ih
theorem M1{x y:List Int}{a b:ai}{Q:af->aj->Prop}(hu:A.units < cLine)(p:T1 prog w s.heap x a)(q:T1 prog w s.heap y b)(h:Q (.bool (zt x y)) s):av (aC prog w) A (cR .Lt (.ref a) (.ref b)) Q E s:=by
 obtain⟨i1,t1,n1⟩:=DP p;obtain⟨i2,t2,n2⟩:=DP q;exact HT.BX t1 t2 n1 n2 hu (by rw [zw]; exact h)
theorem vP{l b:ai}{items gZ:Array af}{n n2:Nat}{dd KJ:Option ai}{sl KC:Array (Option af)}{x y:gH}:
  MeetsIn prog w (dH.«tuple.__lt__» ⟨[.ref l, .ref b], []⟩)
   (fun A R s=>A.units+2 < cLine/\s.heap.get? l=some {cls:= .type "tuple",dict:=dd,data:= .seq items n,slots:=sl}/\s.heap.get? b=some {cls:= .type "tuple",dict:=KJ,data:= .seq gZ n2,slots:=KC}/\
    qR prog w s.heap x items.toList/\qR prog w s.heap y gZ.toList/\R (.ok (.ret (.bool (jQ x y)))) s):=
 .of_wp fun A R s h=>by
  obtain⟨hp,g,d,tk,os⟩:=s;obtain⟨hu,hl,hb,hi,hj,h⟩:=h;have f2:=iP;have z1:items.size=x.length:=by rw [hi.len]; simp
  have z2:gZ.size=y.length:=by rw [hj.len]; simp
  wp_walk using cC hl,cC hb,ng _ (fun rest b s'=>b.1=none/\s'=⟨hp,g,d,tk,os⟩/\ ∃(vs ws:List af) (x' y':gH),rest=vs.zip ws/\
   qR prog w hp x' vs/\qR prog w hp y' ws/\x'.length+gZ.size=y'.length+items.size/\R (.ok (.ret (.bool (jQ x' y')))) ⟨hp,g,d,tk,os⟩) _
  case turn=>
   rintro⟨u,v⟩ rest b s' ⟨ki,rfl,vs,ws,x',y',hz,hv,hw,hlen,hR⟩;cases hv with
   | nil=>rw [List.zip_nil_left]at hz; cases hz
   | @cons r a xs vs' ha Vi=>
    cases hw with
    | nil=>rw [List.zip_nil_right]at hz; cases hz
    | @cons r' c ys ws' hc hw'=>
     rw [rE]at hz;injection hz with hyx hrest;injection hyx with hy hx;subst hy hx;have SV:R (.ok (.ret (.bool (if r=r' then jQ xs ys else zt r r')))) ⟨hp,g,d,tk,os⟩:=hR;simp only [aK]at hlen;refine aa (Dv (A:=A.in1) (s:=⟨hp,g,d,tk,os⟩) (prog:=prog) (w:=w) (by show A.units+1+1 < cLine; omega) ha hc prog w _ _ ?_)
     by_cases e:r=r'
     ·rw [if_pos e]at SV;rw [decide_eq_true e]
      wp_walk
      exact⟨rfl,rfl,_,_,_,_,hrest,Vi,hw',by omega,SV⟩
     ·rw [if_neg e]at SV;rw [decide_eq_false e];have V5: ∀{E:af->aj->Prop} {Q:af->aj->Prop},Q (.bool (zt r r')) ⟨hp,g,d,tk,os⟩->av (aC prog w) A.in1 (richCompare .Lt (.ref a) (.ref c)) Q E ⟨hp,g,d,tk,os⟩:=fun q=>M1 (A:=A.in1) (s:=⟨hp,g,d,tk,os⟩) (show A.units+1 < cLine by omega) ha hc q
      wp_walk using V5
      exact⟨_,rfl,by simpa using SV⟩
  case fin=>
   rintro⟨b1,b2⟩ s' ⟨ki,rfl,vs,ws,x',y',hz,hv,hw,hlen,hR⟩;simp only at ki;subst ki;have he:jQ x' y'=decide (items.size < gZ.size):=by
    cases hv with
    | nil=>
     cases hw with
     | nil=>
      simp only [dI]at hlen;exact(decide_eq_false (by omega)).symm
     | cons c hw=>
      simp only [dI,aK]at hlen;exact(decide_eq_true (by omega)).symm
    | cons a hv=>
     cases hw with
     | nil=>
      simp only [dI,aK]at hlen;exact(decide_eq_false (by omega)).symm
     | cons c hw=>
      rw [rE]at hz;cases hz
   rw [he]at hR
   wp_walk
   exact⟨_,rfl,by simpa [Builtin.Tuple.tupleCompareSizes]using hR⟩
  case h=>
   exact⟨rfl,rfl,items.toList,gZ.toList,x,y,rfl,hi,hj,by omega,h⟩
theorem Qc{x y:gH}{a b:ai}{Q:af->aj->Prop}(hu:A.units+2 < cLine)(p:T2 prog w s.heap x a)(q:T2 prog w s.heap y b)(h:Q (.bool (jQ x y)) s):av (aC prog w) A (cR .Lt (.ref a) (.ref b)) Q E s:=by
 have ta:=p.ty;have tb:=q.ty;obtain⟨⟨c1,d1,e1,f1⟩,i1,n1,h1,h2,h3,h4⟩:=p;obtain⟨⟨c2,d2,e2,f2⟩,i2,n2,k1,k2,k3,k4⟩:=q;simp only at h2 h3 k2 k3;subst h2 h3 k2 k3;show av (aC prog w) A (richCompare .Lt (.ref a) (.ref b)) Q E s;exact wpAny_richCompare_same_room ta tb Eo (call_meetsIn Eo ta PySem.F.entry_tuple_lt (PySem.F.args_tuple_lt_2 _ _) vP ⟨hu,h1,k1,h4,k4,show gf (jQ x y)≠Value.notImplemented/\Q (.bool (jQ x y)) s from⟨(fun z=>nomatch z),h⟩⟩) (by omega)
end
section
variable {prog:aH}{w:aW}{A:bA}{E:af->aj->Prop}{s:aj}
theorem wF{M:Model}{h:aY}{b:ai}{o:Obj}(e:h.get? b=some o)(c:o.cls= .type "tuple"):Looks M h (typeOf (.ref b)) (.type "tuple"):=fun A Q E s k q=>fq (T:="tuple") ⟨o,k _ _ e,c⟩ q
theorem He{M:Model}{h:aY}{r:List Int}{b:ai}(x:T1 prog w h r b):Looks M h (typeOf (.ref b)) (.type "tuple"):=let⟨_,_,_,h1,h2,_⟩:=x; wF h1 h2
theorem Jc{M:Model}{h:aY}{r:gH}{b:ai}(x:T2 prog w h r b):Looks M h (typeOf (.ref b)) (.type "tuple"):=let⟨_,_,_,h1,h2,_⟩:=x; wF h1 h2
theorem Ae{fin:Bool}{Q:Bool->aj->Prop}(hu:A.units+1 < cLine): ∀(x y:gH) (l l':List af) (i:Nat),qR prog w s.heap x l->qR prog w s.heap y l'->x.length=y.length->fin=false->Q (jQ x y) s->KatLex prog w A false fin Q (l.zip l') i s
 | [], [],_,_,i, .nil, .nil,_,hf,hq=>by subst hf; exact hq
 | [],_::_,_,_,_,_,_,hl,_,_=>by simp at hl
 | _::_, [],_,_,_,_,_,hl,_,_=>by simp at hl
 | r::x,r'::y,_,_,i, .cons a s1, .cons b s2,hl,hf,hq=>by
  have hq:Q (if r=r' then jQ x y else zt r r') s:=hq;refine kat_cons (Dv hu a b prog w _ _ ?_)
  by_cases e:r=r'
  ·rw [if_pos e]at hq;rw [decide_eq_true e];exact kat_yes (Ae hu x y _ _ (i+1) s1 s2 (by simpa using hl) hf hq)
  ·rw [if_neg e]at hq;rw [decide_eq_false e];refine kat_no ?_;rw [fC];exact kat_one _ _ (M1 (by omega) a b hq)
theorem NZ{x y:gH}{a b:ai}{Q:Bool->aj->Prop}(hu:A.units+1 < cLine)(p:T2 prog w s.heap x a)(q:T2 prog w s.heap y b)(hl:x.length=y.length)(h:Q (jQ x y) s):av (aC prog w) A (keyLt' (tuples' false) (.ref a) (.ref b)) Q (fun _ _=>False) s:=by
 obtain⟨o,i1,n,h1,_,h3,h4⟩:=p;obtain⟨o',i2,n',k1,_,k3,k4⟩:=q;have l1:i1.size=x.length:=by rw [h4.len,ao]
 have l2:i2.size=y.length:=by rw [k4.len,ao]
 exact kat_lt h1 h3 k1 k3 (Ae hu x y _ _ 0 h4 k4 hl (decide_eq_false (by rw [l1,l2,hl]; exact fv _)) h)
def T3(prog:aH)(w:aW)(h:aY)(k:gH×Int)(a:ai):Prop:= ∃o n b t,h.get? a=some o/\o.cls= .type "tuple"/\o.data= .seq #[.ref b, .int k.2 t] n/\T2 prog w h k.1 b
theorem T3.keep{h h':aY}{k:gH×Int}{a:ai}(x:T3 prog w h k a)(q: ∀c o,(o.cls= .type "tuple"/\ ∃items n,o.data= .seq items n)->h.get? c=some o->h'.get? c=some o):T3 prog w h' k a:=
 let⟨o,n,b,t,h1,h2,h3,h4⟩:=x; ⟨o,n,b,t,q a o ⟨h2,_,_,h3⟩ h1,h2,h3,h4.keep q⟩
theorem OC{x y:gH×Int}{a b:ai}{Q:Bool->aj->Prop}(hu:A.units+2 < cLine)(p:T3 prog w s.heap x a)(q:T3 prog w s.heap y b)(h:Q (mB x y) s):av (aC prog w) A (keyLt' (tuples' false) (.ref a) (.ref b)) Q (fun _ _=>False) s:=by
 obtain⟨o,n,c,t,h1,_,h3,h4⟩:=p;obtain⟨o',n',c',t',k1,_,k3,k4⟩:=q;refine kat_lt h1 h3 k1 k3 ?_;show KatLex prog w A false _ Q [(.ref c, .ref c'),(.int x.2 t, .int y.2 t')] 0 s;refine kat_cons (Dg hu h4 k4 prog w _ _ ?_);unfold mB at h
 by_cases e:x.1=y.1
 ·rw [if_pos e]at h;rw [decide_eq_true e];refine kat_yes (kat_cons (MI ?_))
  by_cases e2:x.2=y.2
  ·rw [beq_iff_eq.mpr e2];refine kat_yes (kat_nil ?_);have z:ltI x.2 y.2=false:=decide_eq_false (by omega);rw [z]at h;exact h
  ·rw [beq_eq_false_iff_ne.mpr e2];refine kat_no ?_;rw [fC];exact kat_one _ _ (lt_int h)
 ·rw [if_neg e]at h;rw [decide_eq_false e];refine kat_no ?_;rw [fC];exact kat_one _ _ (Qc (by omega) h4 k4 h)
theorem M_{h:aY}: ∀{pr:List (af×gH)},(∀q∈pr, ∃b,q.1=au b/\T2 prog w h q.2 b/\q.2≠ [])-> ∃fs,KatTups h (pr.map (·.1)) fs/\fs.length=pr.length/\ ∀v∈fs, ∃r b,v=au b/\T1 prog w h r b
 | [],_=>⟨[],trivial,rfl,fun v hv=>by cases hv⟩
 | q::pr,x=>by
  obtain⟨b,e,⟨o,items,n,h1,h2,h3,h4⟩,ja⟩:=x q (.head _);obtain⟨fs,a1,a2,a3⟩:=M_ (pr:=pr) fun u hu=>x u (.tail _ hu);obtain⟨v,rs⟩:=q;obtain⟨items⟩:=items;cases h4 with
  | nil=>exact absurd rfl ja
  | @cons r c JU vs' hr t=>
   refine⟨.ref c::fs,⟨⟨b,o,_,n,e,h1,h2,h3,rfl⟩,a1⟩,by simp [a2],fun u hu=> ?_⟩
   rcases aV.mp hu with rfl | hu
   ·exact⟨r,c,rfl,hr⟩
   ·exact a3 u hu
theorem MV{h:aY}: ∀{pr:List (af×(gH×Int))},(∀q∈pr, ∃b,q.1=au b/\T3 prog w h q.2 b)-> ∃fs,KatTups h (pr.map (·.1)) fs/\fs.length=pr.length/\ ∀v∈fs, ∃r b,v=au b/\T2 prog w h r b
 | [],_=>⟨[],trivial,rfl,fun v hv=>by cases hv⟩
 | q::pr,x=>by
  obtain⟨b,e,o,n,c,t,h1,h2,h3,h4⟩:=x q (.head _);obtain⟨fs,a1,a2,a3⟩:=MV (pr:=pr) fun u hu=>x u (.tail _ hu);refine⟨.ref c::fs,⟨⟨b,o,_,n,e,h1,h2,h3,rfl⟩,a1⟩,by simp [a2],fun u hu=> ?_⟩
  rcases aV.mp hu with rfl | hu
  ·exact⟨_,c,rfl,h4⟩
  ·exact a3 u hu
theorem Dl{a:ai}{pr:List (af×gH)}{m n:Nat}{P:vF->aj->Prop}(hu:A.units+1 < cLine)(ho:s.heap.get? a=some (cV "list" (pr.map (·.1)).toArray n))(hl:pr.length<=sizeLine)(y: ∀q∈pr, ∃b,q.1=au b/\T2 prog w s.heap q.2 b)(hm: ∀q∈pr,q.2.length=m)(m0:0 < m)(nk:(pr.map (·.2)).Nodup)
  (h: ∀(h':aY) (out:List af) (c:Nat),j0 jQ pr out->h'.get? a=some (cV "list" out.toArray c)->(∀b ob,b≠a->s.heap.get? b=some ob->h'.get? b=some ob)->P (.done (.ret .none)) {s with heap:=h'}):
  av (aC prog w) A (dH.«list.sort» ⟨[.ref a], []⟩) P E s:=by
 have nv:(pr.map (·.1)).Nodup:=by
  refine bY.mpr fun i j hi hj kS z=> ?_;rw [ae]at hi hj;rw [a8,a8]at z;obtain⟨b,e1,t1⟩:=y _ (aX hi);obtain⟨b',e2,t2⟩:=y _ (aX hj);rw [e1,e2]at z;cases z;have:=(bY.mp nk) i j (by rw [ae]; exact hi) (by rw [ae]; exact hj) kS;rw [a8,a8]at this;exact this (t1.inj t2)
 have kp: ∀h':aY,(∀b ob,b≠a->s.heap.get? b=some ob->h'.get? b=some ob)-> ∀q∈pr, ∃b,q.1=au b/\T2 prog w h' q.2 b:=fun h' k q hq=>by
  obtain⟨b,e,t⟩:=y q hq;exact⟨b,e,t.keep fun c o hc z=>k c o (by rintro rfl; rw [ho]at z; cases z; exact absurd (show cK "list"=cK "tuple" from hc.1) (by decide)) z⟩
 have ne: ∀q∈pr,q.2≠ []:=fun q hq z=>by have:=hm q hq; rw [z]at this; simp at this; omega
 refine ug (lt:=jQ) (κ:=tuples' false) rfl zG nv nk ho (by rw [ae]; exact hl) (fun h2 h' Q k q=> ?_) (fun h' k x hx z hz Q q=> ?_) h
 ·obtain⟨fs,a1,a2,a3⟩:=M_ (prog:=prog) (w:=w) (h:=h') (pr:=pr) fun q hq=>let⟨b,e,t⟩:=kp h' k q hq; ⟨b,e,t,ne q hq⟩;rw [ae]at h2;exact kat_kind (s:={s with heap:=h'}) (T:= .type "tuple") a1 (by omega) (fun v hv=>by obtain⟨r,b,rfl,t⟩:=a3 v hv; exact He t) (by decide) q
 ·obtain⟨b,e1,t1⟩:=kp h' k x hx;obtain⟨c,e2,t2⟩:=kp h' k z hz;rw [e1,e2];exact NZ (s:={s with heap:=h'}) hu t1 t2 (by rw [hm x hx,hm z hz]) q
theorem LD{a:ai}{pr:List (af×(gH×Int))}{n:Nat}{P:vF->aj->Prop}(hu:A.units+2 < cLine)(ho:s.heap.get? a=some (cV "list" (pr.map (·.1)).toArray n))(hl:pr.length<=sizeLine)(y: ∀q∈pr, ∃b,q.1=au b/\T3 prog w s.heap q.2 b)(nk:(pr.map (·.2)).Nodup)
  (h: ∀(h':aY) (out:List af) (c:Nat),j0 mB pr out->h'.get? a=some (cV "list" out.toArray c)->(∀b ob,b≠a->s.heap.get? b=some ob->h'.get? b=some ob)->P (.done (.ret .none)) {s with heap:=h'}):
  av (aC prog w) A (dH.«list.sort» ⟨[.ref a], []⟩) P E s:=by
 have nv:(pr.map (·.1)).Nodup:=by
  refine bY.mpr fun i j hi hj kS z=> ?_;rw [ae]at hi hj;rw [a8,a8]at z;obtain⟨b,e1,o1,n1,c1,t1,p1,p2,p3,p4⟩:=y _ (aX hi);obtain⟨b',e2,o2,n2,c2,t2,q1,q2,q3,q4⟩:=y _ (aX hj);rw [e1,e2]at z;cases z;rw [p1]at q1;cases q1;rw [p3]at q3;simp only [Data.seq.injEq,Array.mk.injEq,List.cons.injEq,Value.ref.injEq,Value.int.injEq,and_true]at q3;obtain⟨⟨rfl,k2,_⟩,_⟩:=q3;have:=(bY.mp nk) i j (by rw [ae]; exact hi) (by rw [ae]; exact hj) kS;rw [a8,a8]at this;exact this (Prod.ext (p4.inj q4) k2)
 have kp: ∀h':aY,(∀b ob,b≠a->s.heap.get? b=some ob->h'.get? b=some ob)-> ∀q∈pr, ∃b,q.1=au b/\T3 prog w h' q.2 b:=fun h' k q hq=>by
  obtain⟨b,e,t⟩:=y q hq;exact⟨b,e,t.keep fun c o hc z=>k c o (by rintro rfl; rw [ho]at z; cases z; exact absurd (show cK "list"=cK "tuple" from hc.1) (by decide)) z⟩
 refine ug (lt:=mB) (κ:=tuples' false) rfl Qy nv nk ho (by rw [ae]; exact hl) (fun h2 h' Q k q=> ?_) (fun h' k x hx z hz Q q=> ?_) h
 ·obtain⟨fs,a1,a2,a3⟩:=MV (prog:=prog) (w:=w) (h:=h') (pr:=pr) (kp h' k);rw [ae]at h2;exact kat_kind (s:={s with heap:=h'}) (T:= .type "tuple") a1 (by omega) (fun v hv=>by obtain⟨r,b,rfl,t⟩:=a3 v hv; exact Jc t) (by decide) q
 ·obtain⟨b,e1,t1⟩:=kp h' k x hx;obtain⟨c,e2,t2⟩:=kp h' k z hz;rw [e1,e2];exact OC (s:={s with heap:=h'}) hu t1 t2 q
end
abbrev rk:List Int->List Int->Bool:=zt
theorem w_(a b:Int)(x y:List Int):rk (a::x) (b::y)=if a=b then rk x y else decide (a < b):=rfl
theorem Hh{a b:List Int}(h:a≠b)(e:rk a b=false):rk b a=true:=zm.lex.tot a b h e
theorem Me{a b c:List Int}(e:rk a b=true)(e':rk b c=true):rk a c=true:=zm.lex.tr a b c e e'
abbrev Qk(pr:List (af×List Int))(out:List af):Prop:=j0 rk pr out
theorem oE{α β:Type}{f:α->β}: ∀{r:List α} {l:List β},l.Perm (r.map f)-> ∃l':List α,l'.Perm r/\l'.map f=l
 | [],l,h=>⟨[],dC _,by rw [sC]at h; rw [sC,h.eq_nil]⟩
 | x::r,l,h=>by
  have hm:f x∈l:=h.mem_iff.mpr (by simp);obtain⟨s,t,rfl⟩:=List.append_of_mem hm;have h2:(s ++ t).Perm (r.map f):=by
   have:=MO.symm.trans h;rw [a9]at this;exact this.cons_inv
  obtain⟨l',h3,h4⟩:=oE h2;refine⟨l'.take s.length ++ x::l'.drop s.length, ?_, ?_⟩
  ·refine MO.trans ?_;rw [ba];exact h3.cons x
  ·rw [bw,a9,List.map_take,Bq,h4];simp
section
variable {prog:aH}{w:aW}{A:bA}{E:af->aj->Prop}{s:aj}
theorem Qr{p q:Int}{t u:Tok}{b:Bool}{Q:Bool->aj->Prop}(h:Q (decide (p < q)) s):av (aC prog w) A (oneLt' b (.int p t) (.int q u)) Q (fun _ _=>False) s:=by
 cases b with
 | true=>exact oneLt_int h
 | false=>exact kat_one _ _ (lt_int h)
theorem zV{k:Int}{v:af}(h:(gJ prog w).is k v=true): ∃t,v=gR k t:=ml h
theorem I_{b fin:Bool}{Q:Bool->aj->Prop}: ∀(ks wm:List Int) (l l':List af) (i:Nat),qg (gJ prog w) ks l->qg (gJ prog w) wm l'->(ks.length=wm.length)->fin=false->Q (rk ks wm) s->KatLex prog w A b fin Q (l.zip l') i s
 | [], [],l,l',i,h1,h2,_,hf,hq=>by
  cases h1;cases h2;subst hf;exact hq
 | [],_::_,_,_,_,_,_,hl,_,_=>by simp at hl
 | _::_, [],_,_,_,_,_,hl,_,_=>by simp at hl
 | k::ks,k'::wm,l,l',i,h1,h2,hl,hf,hq=>by
  cases h1 with
  | cons a1 r1=>
   cases h2 with
   | cons a2 r2=>
    obtain⟨t,rfl⟩:=zV a1;obtain⟨u,rfl⟩:=zV a2;refine kat_cons (MI ?_);refine kat_go (fun e=>kat_yes (I_ ks wm _ _ (i+1) r1 r2 (by simpa using hl) hf ?_)) fun e=>kat_no (Qr ?_)
    ·rw [w_,if_pos (of_decide_eq_true e)]at hq;exact hq
    ·rw [w_,if_neg (of_decide_eq_false e)]at hq;exact hq
def Qh(prog:aH)(w:aW)(h:aY)(pr:List (af×List Int)):Prop:= ∀q∈pr, ∃b,q.1=au b/\TK prog w h q.2 b/\q.2.length=2
theorem Qh.kat{h:aY}: ∀{pr:List (af×List Int)},Qh prog w h pr-> ∃fs,KatTups h (pr.map (·.1)) fs/\fs.length=pr.length/\ ∀v∈fs, ∃i t,v=gR i t
 | [],_=>⟨[],trivial,rfl,fun v hv=>by cases hv⟩
 | q::pr,x=>by
  obtain⟨b,e,⟨o,items,n,ho,hc,hd,hi⟩,ja⟩:=x q (.head _);obtain⟨fs,h1,h2,h3⟩:=Qh.kat (pr:=pr) fun u hu=>x u (.tail _ hu);have rZ:=yC hi;have hlen:=hi.length;obtain⟨items⟩:=items;cases items with
  | nil=>rw [ja]at hlen; cases hlen
  | cons f r=>
   refine⟨f::fs,⟨⟨b,o,_,n,e,ho,hc,hd,rfl⟩,h1⟩,by simp [h2],fun u hu=> ?_⟩
   rcases aV.mp hu with rfl | hu
   ·exact rZ _ (.head _)
   ·exact h3 u hu
theorem Hm{a:ai}{pr:List (af×List Int)}{n:Nat}{P:vF->aj->Prop}(ho:s.heap.get? a=some (cV "list" (pr.map (·.1)).toArray n))(hl:pr.length<=sizeLine)(y:Qh prog w s.heap pr)(nk:(pr.map (·.2)).Nodup)
  (h: ∀(h':aY) (out:List af) (c:Nat),Qk pr out->h'.get? a=some (cV "list" out.toArray c)->(∀b ob,b≠a->s.heap.get? b=some ob->h'.get? b=some ob)->P (.done (.ret .none)) {s with heap:=h'}):
  av (aC prog w) A (dH.«list.sort» ⟨[.ref a], []⟩) P E s:=by
 have nv:(pr.map (·.1)).Nodup:=by
  refine bY.mpr fun i j hi hj kS z=> ?_;rw [ae]at hi hj;rw [a8,a8]at z;obtain⟨b,e1,t1,_⟩:=y _ (aX hi);obtain⟨b',e2,t2,_⟩:=y _ (aX hj);rw [e1,e2]at z;cases z;have:=(bY.mp nk) i j (by rw [ae]; exact hi) (by rw [ae]; exact hj) kS;rw [a8,a8]at this;exact this (IsTupleKey.inj t1 t2)
 have kp: ∀h':aY,(∀b ob,b≠a->s.heap.get? b=some ob->h'.get? b=some ob)->Qh prog w h' pr:=fun h' k q hq=>by
  obtain⟨b,e,t,l⟩:=y q hq;have hb:b≠a:=by
   rintro rfl;obtain⟨o,_,_,z,hc,_⟩:=t;rw [ho]at z;cases z;exact absurd (show cK "list"=cK "tuple" from hc) (by decide)
  exact⟨b,e,t.keep fun o z=>k b o hb z,l⟩
 refine ug (lt:=rk) (κ:=tuples' true) rfl zm.lex nv nk ho (by rw [ae]; exact hl) (fun h2 h' Q k q=> ?_) (fun h' k x hx z hz Q q=> ?_) h
 ·obtain⟨fs,a1,a2,a3⟩:=(kp h' k).kat;rw [ae]at h2;exact kat_kind (s:={s with heap:=h'}) (T:= .type "int") a1 (by omega) (fun v hv=>by obtain⟨i,t,rfl⟩:=a3 v hv; exact .now) (by decide) q
 ·obtain⟨b,e1,⟨o,items,n,ho,hc,hd,hit⟩,Bw⟩:=kp h' k x hx;obtain⟨c,e2,⟨o',UQ,n',yO,QS,BB,RG⟩,zb⟩:=kp h' k z hz;rw [e1,e2];have z1:=hit.length;have z2:=RG.length;refine kat_lt (s:={s with heap:=h'}) ho hd yO BB (I_ _ _ _ _ 0 hit RG (by rw [Bw,zb]) (decide_eq_false ?_) q);rw [ao]at z1 z2;omega
def uX(prog:aH)(w:aW){Ky:Type} [DecidableEq Ky](κ:nF prog w Ky)(lt:Ky->Ky->Bool)(ok:Ky->Prop)(u:Nat):Prop:= ∀{A:bA} {E:af->aj->Prop} {s:aj} {a:ai} {pr:List (af×Ky)} {n:Nat} {P:vF->aj->Prop},A.units<=u->s.heap.get? a=some (cV "list" (pr.map (·.1)).toArray n)->pr.length<=sizeLine->(∀q∈pr, ∃b,q.1=au b/\κ.is s.heap q.2 b/\ok q.2)->(pr.map (·.2)).Nodup->
  (∀(h':aY) (out:List af) (c:Nat),j0 lt pr out->h'.get? a=some (cV "list" out.toArray c)->(∀b ob,b≠a->s.heap.get? b=some ob->h'.get? b=some ob)->P (.done (.ret .none)) {s with heap:=h'})->
  av (aC prog w) A (dH.«list.sort» ⟨[.ref a], []⟩) P E s
theorem L5(u:Nat):uX prog w (Qx prog w) rk (fun k=>k.length=2) u:=fun _ ho hl y nk h=>Hm ho hl y nk h
theorem Li{m u:Nat}(m0:0 < m)(hu:u+1 < cLine):uX prog w (QP prog w) jQ (fun k=>k.length=m) u:=fun hA ho hl y nk h=>Dl (by omega) ho hl (fun q hq=>let⟨b,e,t,_⟩:=y q hq; ⟨b,e,t⟩) (fun q hq=>let⟨_,_,_,l⟩:=y q hq; l) m0 nk h
theorem j0.perm{Ky:Type}{lt:Ky->Ky->Bool}{pr RF:List (af×Ky)}{out:List af}(h:j0 lt RF out)(hp:RF.Perm pr):j0 lt pr out:=let⟨q,a,b,c⟩:=h; ⟨q,a.trans hp,b,c⟩
theorem zY{Ky:Type} [DecidableEq Ky]{κ:nF prog w Ky}{lt:Ky->Ky->Bool}{ok:Ky->Prop}(so:uX prog w κ lt ok (A.units+8)){a:ai}{o:Obj}{es:Array (Int×af)}{ep:Nat}{t:bC}{Q:af->aj->Prop}(hh:A.handled=none)(S:PF (!sg w) o es ep t)(hg:s.heap.get? a=some o)(pr:List (af×Ky))(Pf:pr.map (·.1)=es.toList.map (·.2))(y: ∀q∈pr, ∃b,q.1=au b/\κ.is s.heap q.2 b/\ok q.2)(nd:(pr.map (·.2)).Nodup)
  (h: ∀(h':aY) (tk D:Nat) (out:List af) (c:Nat),s.heap.objs.size<=D->j0 lt pr out->h'.get? D=some (cV "list" out.toArray c)->(∀b ob,s.heap.get? b=some ob->h'.get? b=some ob)->Q (.ref D) {s with heap:=h',toks:=tk}):
  av (aC prog w) A (call (.builtin "sorted") [.ref a]) Q E s:=by
 refine zf kind_sorted plain_sorted entry_sorted (args_sorted1 _) ?_;unfold dH.«sorted»;refine aa (m:=checkCount "sorted" 1 1 _) (ag ?_);refine aa (Ay (by simpa using hh) S hg fun h1 tk vs hsz hk hp=> ?_);have hlen:vs.length<=120:=by rw [hp.length_eq,ae,ao]; have:=S.iT; omega
 obtain⟨RF,Vs,W3⟩:=oE (f:=fun q:af×Ky=>q.1) (Pf▸hp);have Rf:(RF.map (·.2)).Nodup:=(Vs.map _).symm.nodup nd;refine aa (Bp ?_ (by rw [eF]; omega));have KI:(h1.push (cV "list" vs.toArray 0)).get? h1.objs.size=some (cV "list" vs.toArray 0):=aw _ rfl;have pZ: ∀b ob,s.heap.get? b=some ob->(h1.push (cV "list" vs.toArray 0)).get? b=some ob:=fun b ob e=>ah _ (hk b ob e);have PY: ∀b ob,s.heap.get? b=some ob->b≠h1.objs.size:=fun b ob e=>aN (jC (az e) hsz);show av _ _ _ _ _ {s with heap:=h1.push (cV "list" vs.toArray 0),toks:=tk};refine aa (bP (bU slot_list_sort ⟨_,KI,rfl⟩ NQ ?body (args_list_sort _)))
 case body=>
  refine so (s:={s with heap:=h1.push (cV "list" vs.toArray 0),toks:=tk}) (pr:=RF) ?_ (by show(h1.push (cV "list" vs.toArray 0)).get? h1.objs.size=_; rw [KI, <-W3]) (by have:=congrArg eS W3; rw [ae]at this; rw [eF]; omega) (fun q hq=> ?_) Rf fun h' out c Kg mK J0=> ?_
  ·simp only [iB];omega
  ·obtain⟨b,e,O9,ja⟩:=y q (Vs.mem_iff.mp hq);exact⟨b,e,κ.keep O9 fun c o _ z=>pZ c o z,ja⟩
  ·exact⟨_,rfl,ag ⟨_,rfl,h h' tk h1.objs.size out c (jw hsz) (Kg.perm Vs) mK fun b ob e=>J0 b ob (PY b ob e) (pZ b ob e)⟩⟩
end
end Z
namespace Z
open PySem PySem.Spec PyProof.Rows L2
abbrev K4(a b:Int×Int):Bool:=rk (N3 a) (N3 b)
def uY(p:Int×Int):List (Int×Int)->List (Int×Int)
 | []=> [p]
 | q::r=>if K4 p q then p::q::r else if p=q then q::r else q::uY p r
def iu(ps:List (Int×Int)):List (Int×Int):=ps.foldr uY []
theorem uQ(p x:Int×Int): ∀l,x∈uY p l↔x=p\/x∈l
 | []=>by simp [uY]
 | q::r=>by
  unfold uY
  split
  ·simp
  ·split
   ·rename_i e;subst e;simp
   ·rw [aV,uQ p x r,aV];constructor
    ·rintro(h | h | h)
     ·exact .inr (.inl h)
     ·exact .inl h
     ·exact .inr (.inr h)
    ·rintro(h | h | h)
     ·exact .inr (.inl h)
     ·exact .inl h
     ·exact .inr (.inr h)
theorem nZ(x:Int×Int): ∀ps,x∈iu ps↔x∈ps
 | []=>by simp [iu]
 | p::ps=>by
  show x∈uY p (iu ps)↔_;rw [uQ,nZ x ps,aV]
theorem K1{a b:Int×Int}(h:N3 a=N3 b):a=b:=by
 unfold N3 at h;injection h with h1 h2;injection h2 with h2 _;exact Prod.ext h1 h2
theorem Dh(p:Int×Int): ∀l:List (Int×Int),l.Pairwise (fun a b=>K4 a b=true)->(uY p l).Pairwise (fun a b=>K4 a b=true)
 | [],_=>BL _ _
 | q::r,h=>by
  unfold uY;have h1:=cD.mp h
  split
  ·rename_i e;refine cD.mpr ⟨fun x hx=> ?_,h⟩
   rcases aV.mp hx with rfl | hx
   ·exact e
   ·exact Me e (h1.1 x hx)
  ·rename_i e
   split
   ·exact h
   ·rename_i ne;refine cD.mpr ⟨fun x hx=> ?_,Dh p r h1.2⟩
    rcases(uQ p x r).mp hx with rfl | hx
    ·exact Hh (fun z=>ne (K1 z)) (Bool.eq_false_iff.mpr e)
    ·exact h1.1 x hx
theorem Dj: ∀ps:List (Int×Int),(iu ps).Pairwise (fun a b=>K4 a b=true)
 | []=>eY
 | p::ps=>Dh p _ (Dj ps)
theorem Ak(ps:List (Int×Int)):(iu ps).length<=ps.length:=by
 have: ∀(p:Int×Int) l,(uY p l).length<=l.length+1:=fun p l=>by
  induction l with
  | nil=>exact ay _
  | cons q r ih=>
   unfold uY
   split
   ·simp
   ·split
    ·simp
    ·simp; omega
 induction ps with
 | nil=>exact ay _
 | cons p ps ih=>
  have:=this p (iu ps);show(uY p (iu ps)).length<=_;rw [aK];omega
end Z
namespace Z
open PySem PySem.Spec PyProof.Rows
end Z
namespace Z
open PySem PySem.Spec PyProof.Rows L2
theorem tQ{scope:iF}{env:Env}{y1 y2:Str}{c1 c2:ai}{pre mid post:List (Str×kx)}(hs:scope.names=pre ++ (y1, .free)::(mid ++ (y2, .free)::post))(h1: ∀z∈pre,z.2≠ .free)(h2: ∀z∈mid,z.2≠ .free)(h3: ∀z∈post,z.2≠ .free)(Y_:env.cells.lookup y1=some c1)(Ef:env.cells.lookup y2=some c2):y4 scope env=pure [(y2,c2),(y1,c1)]:=by
 have step: ∀(y:Str) (c:ai) (acc:List (Str×ai)),env.cells.lookup y=some c->j5 env (y, .free) acc=pure (fS ((y,c)::acc)):=fun y c acc hc=>by
  have e:cellOf env y=pure c:=by unfold cellOf; rw [hc]
  unfold j5;simp only [beq_self_eq_true,if_true,e,vE]
 have all:forIn scope.names ([]:List (Str×ai)) (j5 env)=pure [(y2,c2),(y1,c1)]:=by
  rw [hs,oF pre _ [] h1,cJ,step y1 c1 [] Y_];simp only [vE];rw [oF mid _ _ h2,cJ,step y2 c2 _ Ef];simp only [vE];have:=oF (env:=env) post [] [(y2,c2),(y1,c1)] h3;rw [bz]at this;rw [this];rfl
 have e3:y4 scope env=(forIn scope.names ([]:List (Str×ai)) (j5 env) >>=fun r=>pure r):=rfl;rw [e3,all];rfl
theorem dU.cap2{X:Cx}{scope:iF}{x y1 y2:Str}{c1 c2:ai}{j1 j2:Nat}{pre mid post rn:List (Str×kx)}(hs:scope.names=pre ++ (y1, .free)::(mid ++ (y2, .free)::post))(h1: ∀z∈pre,z.2≠ .free)(h2: ∀z∈mid,z.2≠ .free)(h3: ∀z∈post,z.2≠ .free)(Pg:X.env.cells.lookup y1=some c1)(Pt:X.env.cells.lookup y2=some c2)(ja:(y1==y2)=false)
  (hc: ∀z∈scope.names,z.2≠ .cell)(hk:scope.kind= .function)(hn: ∀y∈scope.names,y.2= .local->scope.names.lookup y.1=some .local)(ho:scope.names.lookup x=some .local)(Mz:X.N[j1]? =some y1)(Gi:X.N[j2]? =some y2)(Ze:X.env.scope.names.lookup y1=some .cell)(ZP:X.env.scope.names.lookup y2=some .cell)
  (A_:(qj scope X.env).names=rn)(U9:rn.lookup y1=some .cell)(US:rn.lookup y2=some .cell)(mf: ∀z∈rn,(z.2= .cell\/z.2= .free)->z.1=y1\/z.1=y2):dU X [x,y1,y2] [j1,j2] scope x [(y2,c2),(y1,c1)] where
 Ci:=tQ hs h1 h2 h3 Pg Pt
 cell:=hc
 kind:=hk
 names:=hn
 own:=ho
 hN:=⟨[y1,y2],rfl,rfl,fun i z k e1 e2=>by
  match i,e1,e2 with
  | 0,e1,e2=>
   have Kl:y1=z:=by simpa using e1
   have Kf:j1=k:=by simpa using e2
   subst Kl Kf;refine⟨Mz,Ze,by rw [A_]; exact U9,fun c' e=> ?_⟩;rw [Pg]at e;cases e;rw [iC,ja];simp
  | 1,e1,e2=>
   have Kl:y2=z:=by simpa using e1
   have Kf:j2=k:=by simpa using e2
   subst Kl Kf;refine⟨Gi,ZP,by rw [A_]; exact US,fun c' e=> ?_⟩;rw [Pt]at e;cases e;simp
  | i+2,e1,_=>simp at e1⟩
 sub:=fun z d h=>by
  rw [iC]at h;cases hb:z==y2 with
  | true=>
   rw [hb]at h;cases h;rw [beq_iff_eq.mp hb];exact Pt
  | false=>
   rw [hb]at h;dsimp only at h;rw [iC]at h;cases Nn:z==y1 with
   | true=>
    rw [Nn]at h;cases h;rw [beq_iff_eq.mp Nn];exact Pg
   | false=>rw [Nn]at h; simp at h
 has:=fun z h=>by
  rw [A_]at h;have:z=y1\/z=y2:=by
   rcases h with h | h
   ·exact mf _ (cX h) (.inl rfl)
   ·exact mf _ (cX h) (.inr rfl)
  rcases this with rfl | rfl
  ·exact⟨c1,by rw [iC,ja]; simp⟩
  ·exact⟨c2,by simp⟩
theorem M8{ρ:fB}{j1 j2:Nat}{d1 d2:D}(h1:ρ[j1]? =some (.im d1))(h2:ρ[j2]? =some (.im d2)):vV ρ [j1,j2] [d1,d2]:=⟨rfl,fun k i d e1 e2=>by
 match k,e1,e2 with
 | 0,e1,e2=>
  have Kl:j1=i:=by simpa using e1
  have Kf:d1=d:=by simpa using e2
  subst Kl Kf;exact h1
 | 1,e1,e2=>
  have Kl:j2=i:=by simpa using e1
  have Kf:d2=d:=by simpa using e2
  subst Kl Kf;exact h2
 | k+2,e1,_=>simp at e1⟩
theorem Kv.exact{X:Cx}{ρ:fB}{e:Expr}{R:D->Prop}{d:D}(h:Kv X ρ e R)(u: ∀d',R d'->d'=d):ar X ρ e d:=fun M0 H0 γ α σ H Q r k=>h M0 H0 γ α σ H Q r fun d' v H' q s x=>k v H' s (u d' q▸x)
end Z
namespace Z
theorem S9{α:Type _}: ∀(us:List α),us.length=1-> ∃a,us= [a]
 | [a],_=>⟨a,rfl⟩
theorem Te{α:Type _}: ∀(us:List α),us.length=2-> ∃a b,us= [a,b]
 | [a,b],_=>⟨a,b,rfl⟩
theorem Tb{α:Type _}: ∀(us:List α),us.length=3-> ∃a b c,us= [a,b,c]
 | [a,b,c],_=>⟨a,b,c,rfl⟩
theorem Ts{α:Type _}: ∀(us:List α),us.length=4-> ∃a b c d,us= [a,b,c,d]
 | [a,b,c,d],_=>⟨a,b,c,d,rfl⟩
theorem Ui{α:Type _}: ∀(us:List α),us.length=5-> ∃a b c d e,us= [a,b,c,d,e]
 | [a,b,c,d,e],_=>⟨a,b,c,d,e,rfl⟩
end Z
namespace Z
open PySem L2 PyProof.Rows
end Z
namespace Z
open PySem PySem.Spec PyProof.Rows L2
theorem oH{H H1:Hp}{l:ai}(s:bQ H H1):bQ (eV H l) (eV H1 l):=fun b o e=>by
 unfold eV at e ⊢
 split at e
 ·cases e
 ·rename_i h;rw [if_neg h];exact s b o e
theorem jN{H:Hp}{l b:ai}{o:HO}(h:b≠l)(e:H b=some o):eV H l b=some o:=by unfold eV; rw [if_neg h]; exact e
end Z
namespace Z
open PySem PySem.Spec PyProof.Rows
end Z
namespace Z
open PySem PySem.Spec PyProof.Rows L2
end Z
namespace Z
open PySem PySem.Spec PySem.W PyProof.Rows
structure lZ(h:aY)(d:ai)(es:Array eN)(ep:Nat):Prop where
 ex: ∃o,h.get? d=some o/\o.ExactDict/\o.data= .dict es ep
theorem lZ.at{h h':aY}{d:ai}{es:Array eN}{ep:Nat}(x:lZ h d es ep)(k: ∀o,h.get? d=some o->h'.get? d=some o):lZ h' d es ep:=let⟨o,h1,r⟩:=x.ex; ⟨o,k o h1,r⟩
def k8(d:ai)(i n ep:Nat):Obj:={cls:= .type "dict_keyiterator",data:= .fields #[.ref d, .int i 0, .int n 0, .int ep 0]}
section
variable {prog:aH}{w:aW}{A:bA}{E:af->aj->Prop}{s:aj}{d:ai}{es:Array eN}{ep:Nat}
theorem lZ.ty(x:lZ s.heap d es ep):s.TypeIs (.ref d) "dict":=let⟨o,h1,h2,_⟩:=x.ex; ⟨o,h1,h2.1⟩
theorem Hi{Q:af->aj->Prop}(hd:(d==gI)=false)(x:lZ s.heap d es ep)(h:Q (.ref s.heap.objs.size) {s with heap:=s.heap.push (k8 d 0 es.size ep)}):av (aC prog w) A (vA (.ref d)) Q E s:=by
 have ty:=x.ty;obtain⟨o,k1,k2,k3⟩:=x.ex;refine jG ty PySem.F.slot_dict_iter (bU PySem.F.slot_dict_iter ty PySem.F.entry_dict_iter ?_ (PySem.F.args_dict_iter_1 _));unfold dH.«dict.__iter__»;refine aa ?_;unfold Builtin.Dict.dictSlotNone;refine aa (wpAny_notOrdered_dict ty ?_);show av _ _ (pure (au d)) _ _ s;refine ag ?_;show av _ _ (pB d >>=_) _ _ s;unfold pB;rw [if_neg (by rw [hd]; exact aG)];refine aa (ag ?_);refine aa (sI k1 k3 ?_);refine aa (wA k1 k3 ?_);refine aa (bx (ag ⟨_,rfl,"dict_keyiterator",_,⟨_,aw _ rfl,rfl⟩,je.lookup, ?_⟩));simpa [fm,k8]using h
theorem z7{I:ai}{i:Nat}{Q:Option af->aj->Prop}(hh:A.handled=none)(hI:s.heap.get? I=some (k8 d i es.size ep))(x:lZ s.heap d es ep)
  (h1: ∀(hi:i < es.size) (h':aY),h'.get? I=some (k8 d (i+1) es.size ep)->bR I s.heap h'->Q (some es[i].key) {s with heap:=h'})
  (h2:es.size<=i-> ∀h',FV I s.heap h'->Q none {s with heap:=h'}):av (aC prog w) A (jb (.ref I)) Q E s:=by
 have ty:s.TypeIs (.ref I) "dict_keyiterator":=⟨_,hI,rfl⟩;obtain⟨o,k1,k2,k3⟩:=x.ex;unfold jb;refine aa (mQ (c6 (name:=iA "__next__") ty je (bU je ty PySem.F.entry_dict_keyiterator_next ?_ (PySem.F.args_dict_keyiterator_next_1 _))));refine aa (ag ?_);refine aa ?_;refine aa ?_
 first | refine aa (vN ty (ag ?_)) | refine aa (Br ty (ag ?_))
 refine aa (wpAny_fieldsOf hI rfl ?_);have own:wB "dict_keyiterator"=false:=by decide
 simp only [own,aZ,if_false];show av _ _ (if(au d==bD)=true then _ else _) _ _ s;rw [if_neg (show ¬((au d==bD)=true)from aG)];refine aa (ag ?_);refine aa (sI k1 k3 ?_);rw [if_neg (by simp)];refine aa (ag ?_);refine aa (wA k1 k3 ?_);rw [if_neg (by simp)];refine ag ?_
 by_cases hi:i < es.size
 ·simp only [show ¬((i:Int) < 0)from by omega,if_false,cP,bE hi];refine aa ?_
  first | refine aa (vN ty (ag ?_)) | refine aa (Br ty (ag ?_))
  refine aa (wpAny_isOneOf_keyiter ty ?_);show av _ _ (ig (.ref I) 1 (fm ((i:Int)+1)) >>=_) _ _ s;refine aa (eU hI rfl (by show 1 < 4; decide) ?_);have PJ:(s.heap.update I (gU (·.setIfInBounds 1 (fm ((i:Int)+1))))).get? I=some (k8 d (i+1) es.size ep):=dw _ hI rfl;refine aa (bP ?_);refine aa (wpAny_isOneOf_keyiter (s:={s with heap:=s.heap.update I (gU (·.setIfInBounds 1 (fm ((i:Int)+1))))}) ⟨_,PJ,rfl⟩ ?_);show av _ _ (pure es[i].key) _ _ _;exact ag (ag ⟨_,rfl,ag (h1 hi _ PJ (bG ..))⟩)
 ·have hi:es.size<=i:=by omega
  simp only [show ¬((i:Int) < 0)from by omega,if_false,cP,Array.getElem?_eq_none hi];refine aa ?_
  first | refine aa (vN ty (ag ?_)) | refine aa (Br ty (ag ?_))
  show av _ _ (ig (.ref I) 0 .none >>=_) _ _ s;refine aa (eU hI rfl (by show 0 < 4; decide) ?_);show av _ _ (vC (.type "StopIteration") [] >>=_) _ _ _;refine aa ?_;simp only [vC,newTuple];refine aa (bx ?_ (by size_fits));refine aa (m:=ij _ _) (vL (a:=bD) (by first | rfl | (simp only [ij]; rfl)) ?_);refine bx ?_ (by size_fits);simp only [raiseNew];refine aa (Bl ?_);rw [show A.in1.handled=none from hh];refine aa (ag (FW ?_));refine aa (fy (T:="StopIteration") (b:=true) ⟨_,aw _ rfl,rfl⟩ y8 ?_);exact ag (h2 hi _ (((bG ..).extBut.push _).push _))
theorem Ex(hh:A.handled=none){I:ai}(ME:I≠d):Walks prog w A I [I,d] [I] es.size (fun i v=> ∃hi:i < es.size,v=es[i].key) (fun i h=>h.get? I=some (k8 d i es.size ep)/\lZ h d es ep) where
 sub:=fun b hb=>by rw [aJ.mp hb]; exact dO
 frame:=fun i h h' ⟨x,y⟩ hk=>⟨hk I (by simp) _ x,y.at fun o e=>hk d (by simp) o e⟩
 item:=fun i s Q E hi ⟨x,y⟩ hQ=>z7 hh x y (fun hi h' PJ sb=>hQ _ h' s.toks ⟨hi,rfl⟩ ⟨PJ,y.at fun o e=>(sb.2 d ME.symm).trans e⟩ fun b ob hb q=>(sb.2 b (by simpa using hb)).trans q) fun he=>absurd hi (by omega)
 done:=fun s Q E ⟨x,y⟩ hQ=>z7 hh x y (fun hi=>absurd hi (by omega)) fun _ h' eb=>hQ h' s.toks fun b ob hb q=>eb b ob (by simpa using hb) q
 self:=fun i s Q E ⟨x,y⟩ hQ=>by
  have ty:s.TypeIs (.ref I) "dict_keyiterator":=⟨_,x,rfl⟩;refine jG ty PySem.F.slot_dict_keyiterator_iter (bU PySem.F.slot_dict_keyiterator_iter ty PySem.F.entry_dict_keyiterator_iter ?_ (PySem.F.args_dict_keyiterator_iter_1 _));show av _ _ (ret (.ref I)) _ _ s;exact ag ⟨_,rfl,"dict_keyiterator",_,ty,je.lookup,hQ⟩
end
section
variable {prog:aH}{w:aW}{A:bA}{E:af->aj->Prop}{s:aj}{d:ai}{es:Array eN}{ep:Nat}
theorem Ag{Q:List af->aj->Prop}(hh:A.handled=none)(hd:(d==gI)=false)(x:lZ s.heap d es ep)(iT:es.size<=sizeLine)
  (hQ: ∀h' tk,s.heap.objs.size < h'.objs.size->(∀b ob,s.heap.get? b=some ob->h'.get? b=some ob)->Q (es.toList.map (·.key)) {s with heap:=h',toks:=tk}):av (aC prog w) A (collect (.ref d)) Q E s:=by
 obtain⟨o,k1,k2,k3⟩:=x.ex;have fj:d < s.heap.objs.size:=az k1;unfold collect;refine aa (y7 (dJ xt ?_));rw [cQ xu _];show av _ A.in1 (xr [] >>=fun l=>again (.builtin "list.__iadd__" ⟨[l, .ref d], []⟩)) _ _ s;refine aa (bx ?_);refine ag ⟨d_ gC _,dJ BK ?_⟩;rw [cQ gC _];have x1:lZ (s.heap.push {cls:= .type "list",data:= .seq ([]:List af).toArray}) d es ep:=x.at fun o e=>ah _ e;have AZ:(s.heap.push {cls:= .type "list",data:= .seq ([]:List af).toArray}).get? s.heap.objs.size=some {cls:= .type "list",data:= .seq ([]:List af).toArray}:=aw _ rfl;have h1:gi (.ref s.heap.objs.size) (.ref d)=false:=by simp [gi,b9 fj]
 have ty:gT {s with heap:=s.heap.push {cls:= .type "list",data:= .seq ([]:List af).toArray}} (.ref d) "dict":=x1.ty (s:={s with heap:=s.heap.push {cls:= .type "list",data:= .seq ([]:List af).toArray}});show av _ A.in1 (ft (.ref s.heap.objs.size) (.ref d) (.ref s.heap.objs.size)) _ _ _;unfold ft;refine aa (fq ty ?_);rw [if_neg (by rw [h1]; decide)];refine aa (Hi (s:={s with heap:=s.heap.push {cls:= .type "list",data:= .seq ([]:List af).toArray}}) hd x1 ?_);refine aa (bP ?_);unfold xv;have x2:lZ ((s.heap.push {cls:= .type "list",data:= .seq ([]:List af).toArray}).push (k8 d 0 es.size ep)) d es ep:=x1.at fun o e=>ah _ e;have Po:gT {s with heap:=(s.heap.push {cls:= .type "list",data:= .seq ([]:List af).toArray}).push (k8 d 0 es.size ep)} (.ref d) "dict":=x2.ty (s:={s with heap:=(s.heap.push {cls:= .type "list",data:= .seq ([]:List af).toArray}).push (k8 d 0 es.size ep)});refine aa (fQ Po PySem.F.slot_dict_len.lookup ?_);generalize hid:("dict.__len__":String)=id0;dsimp only;rw [show splitId id0=some ("dict","__len__")from by subst hid; decide +kernel];subst hid;dsimp only;refine aa (fy (b:=true) Po (by rw [qe]; kernel_rfl) ?_);rw [if_neg (show ¬(!true)=true by decide)];refine eI (fun _=> ?_) fun hs=>(hs (by decide +kernel)).elim;refine aa (fq Po (ag ?_));have Em:(s.heap.push {cls:= .type "list",data:= .seq ([]:List af).toArray}).objs.size=s.heap.objs.size+1:=c8 ..;have ja:s.heap.objs.size≠(s.heap.push {cls:= .type "list",data:= .seq ([]:List af).toArray}).objs.size:=by rw [Em]; exact aN (gA _)
 have ME:(s.heap.push {cls:= .type "list",data:= .seq ([]:List af).toArray}).objs.size≠d:=by rw [Em]; exact b9 (cZ fj)
 have Bz:((s.heap.push {cls:= .type "list",data:= .seq ([]:List af).toArray}).push (k8 d 0 es.size ep)).get? s.heap.objs.size=some {cls:= .type "list",data:= .seq ([]:List af).toArray}:=ah _ AZ;have Ee:((s.heap.push {cls:= .type "list",data:= .seq ([]:List af).toArray}).push (k8 d 0 es.size ep)).get? (s.heap.push {cls:= .type "list",data:= .seq ([]:List af).toArray}).objs.size=some (k8 d 0 es.size ep):=aw _ rfl;have pZ: ∀b ob,s.heap.get? b=some ob->((s.heap.push {cls:= .type "list",data:= .seq ([]:List af).toArray}).push (k8 d 0 es.size ep)).get? b=some ob:=fun b ob e=>ah _ (ah _ e);generalize hI0:(s.heap.push {cls:= .type "list",data:= .seq ([]:List af).toArray}).objs.size=I0 at ja ME Ee Em ⊢;generalize hH0:(s.heap.push {cls:= .type "list",data:= .seq ([]:List af).toArray}).push (k8 d 0 es.size ep)=H0 at Bz Ee pZ x2 ⊢;have fin: ∀(h':aY) (c:Nat),bR s.heap.objs.size H0 h'->h'.get? s.heap.objs.size=some {cls:= .type "list",dict:=none,data:= .seq #[] c,slots:= #[]}->
   gj (aC prog w) A (.builtin "list.extend.loop" ⟨[.ref s.heap.objs.size, .ref I0, .ref s.heap.objs.size], []⟩) (fun r s'=>match r with
       | qk (Flow.ret v)=>
        av (aC prog w) A
         (match v with
         | au a=>do
          let dG<-load a
          match dG.data with
           | yY xs epoch=>pure xs.toList
           | x=>ie "internal:collect"
         | x=>ie "internal:collect")
         Q E s'
       | qk a=>False
       | Except.error e=>E e s') {s with heap:=h'}:=fun h' c sb hl=>by
  refine codeAny_extend_loopS ((Ex (A:=A.in1) (by simpa using hh) ME).toS) iT s.heap.objs.size (by simp only [aV,gB,or_false,not_or]; exact⟨ja,b9 fj⟩) _ es.size 0 _ #[] c (by omega) (bK _)
   ⟨(sb.2 I0 ja.symm).trans Ee,x2.at fun o e=>(sb.2 d (aN fj)).trans e⟩ hl (ItemsOf.nil _) fun s' acc c' hm Kb wq=> ?_
  dsimp only;refine aa (wpAny_load Kb ?_);refine ag ?_;obtain⟨h2,g',d',RD,MD⟩:=s';have eg:g'=s.gens:=hm.gens;have ed:d'=s.drawn:=hm.drawn;have eo:MD=s.os:=hm.os;subst eg; subst ed; subst eo;have e:acc.toList=es.toList.map (·.key):=by
   apply e7;intro i;rw [aA]
   by_cases hi:i < es.size
   ·have KH:i < acc.size:=by rw [wq.1]; exact hi
    have h1:acc[i]? =some acc[i]:=bE KH;obtain⟨_,hv⟩:=wq.2 i _ h1;have h3:acc.toList[i]? =some acc[i]:=by rw [bf]; exact h1
    have h4:es.toList[i]? =some es[i]:=by simp [hi]
    rw [h3,h4,hv];rfl
   ·have h1:acc.toList[i]? =none:=bp (by rw [ao,wq.1]; omega);have h2:es.toList[i]? =none:=bp (by rw [ao]; omega);rw [h1,h2];rfl
  rw [e];refine hQ h2 RD (az Kb) (fun b ob e=> ?_);have hb:=az e;refine hm.heap b ob ?_ ((sb.2 b (aN hb)).trans (pZ b ob e));simp only [aV,gB,or_false,not_or];exact⟨aN hb,by rw [Em]; exact aN (cZ hb)⟩
 refine eI (fun _=> ?_) fun _=> ?_
 ·refine aa (fE ?_);unfold C7;refine aa (aa (iS Bz rfl ?_ (by show 0<=_; omega) (by show 1<=_; rw [eF]; omega)));have NB:=fR Bz fun x=>x.push bD;refine iS NB rfl ?_ (by show 1<=_; rw [eF]; omega) (by show 0<=_; omega);have Rm:=fR NB fun x=>x.pop;exact ag ⟨d_ cT _,fin _ _ ((bG ..).trans (bG ..)) Rm⟩
 ·exact ag ⟨d_ cT _,fin _ _ (eD _ _) Bz⟩
end
def ir(f0 f1 ok ov:af)(d:ai)(i n ep:Nat):Obj:={cls:= .type "dict_itemiterator",data:= .fields #[f0,f1, .ref d, .int i 0, .int n 0, .int ep 0,ok,ov]}
def zP(d:ai):Obj:={cls:= .type "dict_items",data:= .fields #[.ref d]}
def gn(e:eN):Obj:={cls:= .type "tuple",data:= .seq #[e.key,e.val]}
section
variable {prog:aH}{w:aW}{A:bA}{E:af->aj->Prop}{s:aj}{d v:ai}{es:Array eN}{ep:Nat}
theorem EZ(hd:(d==gI)=false):MeetsIn prog w (dH.«dict.items» ⟨[.ref d], []⟩) (fun _ R s=>lZ s.heap d es ep/\R (.ok (.ret (.ref s.heap.objs.size))) {s with heap:=s.heap.push (zP d)}):=
 .of_wp fun A R s ⟨x,h⟩=>by
  unfold dH.«dict.items»;refine aa ?_;unfold Builtin.Dict.noArgs;refine aa (wpAny_notOrdered_dict x.ty ?_);show av _ _ (pure d) _ _ s;refine ag ?_;show av _ _ (pB d >>=_) _ _ s;unfold pB;rw [if_neg (by rw [hd]; exact aG)];refine aa (ag ?_);exact aa (bx (ag ⟨_,rfl,h⟩))
theorem CA{Q:af->aj->Prop}(hv:s.heap.get? v=some (zP d))(x:lZ s.heap d es ep)(h:Q (.ref s.heap.objs.size) {s with heap:=s.heap.push (ir .none (.bool false) .none .none d 0 es.size ep)}):av (aC prog w) A (vA (.ref v)) Q E s:=by
 have ty:s.TypeIs (.ref v) "dict_items":=⟨_,hv,rfl⟩;obtain⟨o,k1,k2,k3⟩:=x.ex;refine jG ty PySem.F.slot_dict_items_iter (bU PySem.F.slot_dict_items_iter ty PySem.F.entry_dict_items_iter ?_ (PySem.F.args_dict_items_iter_1 _));unfold dH.«dict_items.__iter__»;refine aa (ag ?_);refine aa ?_;unfold Builtin.Dict_items.dictOf;refine aa (bW hv rfl (x:= .ref d) rfl (ag ?_));refine aa ?_;unfold Builtin.Dict_items.newIterator;refine aa (sI k1 k3 ?_);refine aa (wA k1 k3 ?_);have own:wB "dict_itemiterator"=true:=by decide
 simp only [own,if_true];refine bx (ag ⟨_,rfl,"dict_itemiterator",_,⟨_,aw _ rfl,rfl⟩,qW.lookup, ?_⟩) (by simp only [sizeOk,Builtin.Dict_items.ownedTupleFields,aD,aq,aK,dI,eF]; omega);simpa [fm,ir,Builtin.Dict_items.ownedTupleFields]using h
theorem Gx{M:Model}{a:ai}{Q:Option Obj->aj->Prop}(h:Q (s.heap.get? a) s):av M A (FX a) Q E s:=fun Γ p hΓ=>h
theorem ur{I:ai}{i:Nat}{f0 f1 ok ov:af}{Q:Option af->aj->Prop}(hh:A.handled=none)(hI:s.heap.get? I=some (ir f0 f1 ok ov d i es.size ep))(PK:f0= .none\/ ∃a:ai,f0=fm a)(x:lZ s.heap d es ep)
  (h1: ∀(hi:i < es.size) (h':aY) (g0 g1 gk gv:af),(g0= .none\/ ∃a:ai,g0=fm a)->h'.get? I=some (ir g0 g1 gk gv d (i+1) es.size ep)->h'.get? s.heap.objs.size=some (gn es[i])->(∀b o,b≠I->s.heap.get? b=some o->h'.get? b=some o)->Q (some (.ref s.heap.objs.size)) {s with heap:=h'})
  (h2:es.size<=i-> ∀h',FV I s.heap h'->Q none {s with heap:=h'}):av (aC prog w) A (jb (.ref I)) Q E s:=by
 obtain⟨hp,g,dr,tk,os⟩:=s;have ty:gT ⟨hp,g,dr,tk,os⟩ (.ref I) "dict_itemiterator":=⟨_,hI,rfl⟩;obtain⟨o,k1,k2,k3⟩:=x.ex;unfold jb;refine aa (mQ (c6 (name:=iA "__next__") ty qW (bU qW ty PySem.F.entry_dict_itemiterator_next ?_ (PySem.F.args_dict_itemiterator_next_1 _))));refine aa (ag ?_);refine aa ?_;refine aa ?_
 first | refine aa (vG ty (ag ?_)) | refine aa (zg ty (ag ?_))
 refine aa (wpAny_fieldsOf hI rfl ?_);have own:wB "dict_itemiterator"=true:=by decide
 simp only [own,if_true];show av _ _ (if(au d==bD)=true then _ else _) _ _ _;rw [if_neg (show ¬((au d==bD)=true)from aG)];refine aa (ag ?_);refine aa (sI k1 k3 ?_);rw [if_neg (by simp)];refine aa (ag ?_);refine aa (wA k1 k3 ?_);rw [if_neg (by simp)];refine ag ?_
 by_cases hi:i < es.size
 ·simp only [show ¬((i:Int) < 0)from by omega,if_false,cP,bE hi];refine aa ?_
  first | refine aa (vG ty (ag ?_)) | refine aa (zg ty (ag ?_))
  refine aa (C8 ty ?_);show av _ _ (ig (.ref I) 3 (fm ((i:Int)+1)) >>=_) _ _ ⟨hp,g,dr,tk,os⟩;refine aa (cf hI (by show 3 < 8; decide) fun a1 e1 s1=> ?_)
  replace s1:bR I hp a1:=s1
  replace e1:a1.get? I=some (ir f0 f1 ok ov d (i+1) es.size ep):=e1
  have WX:gT ⟨a1,g,dr,tk,os⟩ (.ref I) "dict_itemiterator":=⟨_,e1,rfl⟩;refine aa (bP ?_);refine aa (C8 WX ?_);refine aa (C8 WX ?_);show av _ _ (Builtin.Dict_items.pairFromOwner (.ref I) 6 es[i].key es[i].val) _ _ ⟨a1,g,dr,tk,os⟩;unfold Builtin.Dict_items.pairFromOwner;refine aa (y_ ?_);have e2:(a1.push (gn es[i])).get? I=some (ir f0 f1 ok ov d (i+1) es.size ep):=ah _ e1;have z1:a1.objs.size=hp.objs.size:=s1.1;have Q0:I < hp.objs.size:=az hI;have t2:(a1.push (gn es[i])).get? hp.objs.size=some (gn es[i]):=by rw [<-z1]; exact aw _ rfl
  have q2: ∀b o,b≠I->hp.get? b=some o->(a1.push (gn es[i])).get? b=some o:=fun b o hb e=>ah _ (s1.extBut b o hb e);show av _ _ (Builtin.Dict_items.ownedTupleIsFree (.ref I) >>=_) _ _ ⟨a1.push (gn es[i]),g,dr,tk,os⟩;rw [z1];generalize a1.push (gn es[i])=a2 at e2 t2 q2;have free: ∀{Q':af->aj->Prop},(∀h' g0 g1 gk gv,(g0= .none\/ ∃a:ai,g0=fm a)->h'.get? I=some (ir g0 g1 gk gv d (i+1) es.size ep)->h'.get? hp.objs.size=some (gn es[i])->(∀b o,b≠I->hp.get? b=some o->h'.get? b=some o)->Q' (.ref hp.objs.size) ⟨h',g,dr,tk,os⟩)-> ∀{E':af->aj->Prop},
    av (aC prog w) A.in1 (do
     let old:= [<-field (.ref I) 6, <-field (.ref I) (6+1)]
     ig (.ref I) 6 es[i].key; ig (.ref I) (6+1) es[i].val
     ig (.ref I) 0 (fm hp.objs.size); ig (.ref I) 1 (.bool false)
     letGo old [.ref hp.objs.size]
     pure (.ref hp.objs.size)) Q' E' ⟨a2,g,dr,tk,os⟩:=fun{Q'} hQ {E'}=>by
   refine aa (bW e2 rfl (x:=ok) rfl ?_);refine aa (bW e2 rfl (x:=ov) rfl ?_);refine aa (cf e2 (by show 6 < 8; decide) fun a3 e3 s3=> ?_)
   replace s3:bR I a2 a3:=s3
   replace e3:a3.get? I=some (ir f0 f1 es[i].key ov d (i+1) es.size ep):=e3
   refine aa (cf e3 (by show 7 < 8; decide) fun a4 e4 s4=> ?_)
   replace s4:bR I a3 a4:=s4
   replace e4:a4.get? I=some (ir f0 f1 es[i].key es[i].val d (i+1) es.size ep):=e4
   refine aa (cf e4 (by show 0 < 8; decide) fun a5 e5 s5=> ?_)
   replace s5:bR I a4 a5:=s5
   replace e5:a5.get? I=some (ir (fm hp.objs.size) f1 es[i].key es[i].val d (i+1) es.size ep):=e5
   refine aa (cf e5 (by show 1 < 8; decide) fun a6 e6 s6=> ?_)
   replace s6:bR I a5 a6:=s6
   replace e6:a6.get? I=some (ir (fm hp.objs.size) (.bool false) es[i].key es[i].val d (i+1) es.size ep):=e6
   refine aa (FZ (ag (hQ a6 _ _ _ _ (.inr ⟨_,rfl⟩) e6 ?_ ?_)))
   ·exact s6.extBut _ _ (b9 Q0) (s5.extBut _ _ (b9 Q0) (s4.extBut _ _ (b9 Q0) (s3.extBut _ _ (b9 Q0) t2)))
   ·exact fun b o hb e=>s6.extBut b o hb (s5.extBut b o hb (s4.extBut b o hb (s3.extBut b o hb (q2 b o hb e))))
  have fin: ∀h' g0 g1 gk gv,(g0= .none\/ ∃a:ai,g0=fm a)->h'.get? I=some (ir g0 g1 gk gv d (i+1) es.size ep)->h'.get? hp.objs.size=some (gn es[i])->(∀b o,b≠I->hp.get? b=some o->h'.get? b=some o)->Q (some (.ref hp.objs.size)) ⟨h',g,dr,tk,os⟩:=fun h' g0 g1 gk gv c1 c2 c3 c4=>h1 hi h' g0 g1 gk gv c1 c2 c3 c4;refine aa ?_;unfold Builtin.Dict_items.ownedTupleIsFree;refine aa (bW e2 rfl (x:=f0) rfl ?_)
  rcases PK with rfl | ⟨a,rfl⟩
  ·refine ag ?_;rw [if_pos rfl];exact free fun h' g0 g1 gk gv c1 c2 c3 c4=>ag ⟨_,rfl,ag (fin h' g0 g1 gk gv c1 c2 c3 c4)⟩
  ·refine aa (Gx ?_);cases ea:a2.get? a with
   | none=>
    refine eI (fun _=> ?_) fun z=>absurd ?_ z
    ·refine ag ?_;rw [if_pos rfl];exact free fun h' g0 g1 gk gv c1 c2 c3 c4=>ag ⟨_,rfl,ag (fin h' g0 g1 gk gv c1 c2 c3 c4)⟩
    ·show(a2.get? ((a:Int).toNat)).isNone=true;rw [cP,ea];rfl
   | some oa=>
    refine eI (fun z=>absurd (show(a2.get? ((a:Int).toNat)).isNone=true from z) (by rw [cP,ea]; exact aG)) fun _=> ?_;refine aa (bW e2 rfl (x:=f1) rfl ?_);refine eI (fun _=> ?_) fun _=> ?_
    ·refine aa (cf e2 (by show 1 < 8; decide) fun a3 e3 s3=> ?_)
     replace s3:bR I a2 a3:=s3
     replace e3:a3.get? I=some (ir (fm a) (.bool true) ok ov d (i+1) es.size ep):=e3
     refine ag ?_;rw [if_neg aG];exact ag (ag ⟨_,rfl,ag (fin a3 _ _ _ _ (.inr ⟨a,rfl⟩) e3 (s3.extBut _ _ (b9 Q0) t2) fun b o hb e=>s3.extBut b o hb (q2 b o hb e))⟩)
    ·refine ag ?_;rw [if_neg aG];exact ag (ag ⟨_,rfl,ag (fin a2 _ _ _ _ (.inr ⟨a,rfl⟩) e2 t2 q2)⟩)
 ·have hi:es.size<=i:=by omega
  simp only [show ¬((i:Int) < 0)from by omega,if_false,cP,Array.getElem?_eq_none hi];refine aa ?_
  first | refine aa (vG ty (ag ?_)) | refine aa (zg ty (ag ?_))
  show av _ _ (ig (.ref I) 2 .none >>=_) _ _ ⟨hp,g,dr,tk,os⟩;refine aa (eU hI rfl (by show 2 < 8; decide) ?_);show av _ _ (vC (.type "StopIteration") [] >>=_) _ _ _;refine aa ?_;simp only [vC,newTuple];refine aa (bx ?_ (by size_fits));refine aa (m:=ij _ _) (vL (a:=bD) (by first | rfl | (simp only [ij]; rfl)) ?_);refine bx ?_ (by size_fits);simp only [raiseNew];refine aa (Bl ?_);rw [show A.in1.handled=none from hh];refine aa (ag (FW ?_));refine aa (fy (T:="StopIteration") (b:=true) ⟨_,aw _ rfl,rfl⟩ y8 ?_);exact ag (h2 hi _ (((bG ..).extBut.push _).push _))
end
section
variable {prog:aH}{w:aW}{A:bA}{E:af->aj->Prop}{s:aj}{d v:ai}{es:Array eN}{ep:Nat}
theorem yF{I L:ai}{res:af}{R:Result->aj->Prop}{s0:aj}(hh:A.in1.handled=none)(iT:es.size<=sizeLine)(V6:L≠I)(ME:I≠d)(ZZ:L≠d){m0:Nat}:
  ∀(k i:Nat) (h:aY) (bs:List ai) (c:Nat),m0<=h.objs.size->(∀b∈bs,m0<=b)->es.size - i=k->i<=es.size->(∃f0 f1 ok ov,(f0= .none\/ ∃a:ai,f0=fm a)/\h.get? I=some (ir f0 f1 ok ov d i es.size ep))->lZ h d es ep->
   h.get? L=some {cls:= .type "list",dict:=none,data:= .seq (bs.map au).toArray c,slots:= #[]}->bs.length=i->(∀j b,bs[j]? =some b-> ∃hj:j < es.size,h.get? b=some (gn es[j]))->(∀b ob,b≠L->b≠I->s0.heap.get? b=some ob->h.get? b=some ob)->
   (∀(h':aY) (S4:List ai) (c':Nat),(∀b∈S4,m0<=b)->h'.get? L=some {cls:= .type "list",dict:=none,data:= .seq (S4.map au).toArray c',slots:= #[]}->S4.length=es.size->(∀j b,S4[j]? =some b-> ∃hj:j < es.size,h'.get? b=some (gn es[j]))->(∀b ob,b≠L->b≠I->s0.heap.get? b=some ob->h'.get? b=some ob)->R (.ok (.ret res)) {s0 with heap:=h'})->
   gj (aC prog w) A (.builtin "list.extend.loop" ⟨[.ref L, .ref I,res], []⟩) R {s0 with heap:=h}:=by
 intro k
 induction k with
 | zero=>
  intro i h bs c Eg qM hk hi ⟨f0,f1,ok,ov,hf,hI⟩ x hL hb hp hs hR;have rZ:i=es.size:=by omega
  subst rZ;refine dJ PySem.F.entry_extend_loop ?_;rw [cQ cT _];show av _ A.in1 (jb (.ref I) >>=_) _ _ _;refine aa (ur (s:={s0 with heap:=h}) hh hI hf x (fun hi=>absurd hi (fv _)) fun _ h' eb=> ?_);refine ag (hR h' bs c qM (eb _ _ V6 hL) hb (fun j b e=> ?_) fun b ob n1 n2 e=>eb b ob n2 (hs b ob n1 n2 e));obtain⟨hj,e2⟩:=hp j b e;exact⟨hj,eb _ _ (by rintro rfl; rw [hI]at e2; exact absurd (show cK "dict_itemiterator"=cK "tuple" from congrArg Obj.cls (aF e2)) (by decide)) e2⟩
 | succ k ih=>
  intro i h bs c Eg qM hk hi ⟨f0,f1,ok,ov,hf,hI⟩ x hL hb hp hs hR;refine dJ PySem.F.entry_extend_loop ?_;rw [cQ cT _];show av _ A.in1 (jb (.ref I) >>=_) _ _ _;refine aa (ur (s:={s0 with heap:=h}) hh hI hf x (fun hi h' g0 g1 gk gv c1 c2 c3 c4=> ?_) fun W_=>absurd W_ (by omega));have Xv:=c4 L _ V6 hL;have U4:L < h.objs.size:=az hL;have aae:I < h.objs.size:=az hI;have sz:(bs.map au).toArray.size=i:=by rw [aD,ae,hb]
  show av _ A.in1 (updateSeq L (·.push (.ref h.objs.size)) >>=_) _ _ _;refine aa ?_;have up: ∀b ob,b≠L->h'.get? b=some ob->(h'.update L (dP (·.push (.ref h.objs.size)))).get? b=some ob:=fun b ob hb e=>(eB _ _ (fun z:L=b=>hb z.symm)).trans e;obtain⟨cc,Ef⟩: ∃cc,(h'.update L (dP (·.push (.ref h.objs.size)))).get? L=some {cls:= .type "list",dict:=none,data:= .seq ((bs ++ [h.objs.size]).map au).toArray cc,slots:= #[]}:=by
   have e:=fR (c:="list") Xv (·.push (.ref h.objs.size));have ep:((bs ++ [h.objs.size]).map au).toArray=(bs.map au).toArray.push (.ref h.objs.size):=by
    apply nt.mp;rw [jF,bw];rfl
   rw [ep];exact⟨_,e⟩
  refine NM Xv rfl (ag ⟨d_ cT _,ih (i+1) _ (bs ++ [h.objs.size]) cc (by show m0<=(h'.update L _).objs.size; rw [Heap.size_update]; exact bg Eg (jw (az c3))) (fun b ki=>(bO.mp ki).elim (qM b) fun z=>by rw [aJ.mp z]; exact Eg) (by omega) (by omega) ⟨g0,g1,gk,gv,c1,up _ _ V6.symm c2⟩ (x.at fun o e=>up _ _ ZZ.symm (c4 _ _ ME.symm e)) Ef (by rw [aq,hb]; rfl) (fun j b e=> ?_) (fun b ob n1 n2 e=>up _ _ n1 (c4 _ _ n2 (hs b ob n1 n2 e))) hR⟩) (by rw [sz]; omega) (by show((bs.map au).toArray.push _).size<=sizeLine+1; rw [Array.size_push,sz]; omega)
  ·rw [FU]at e
   split at e
   ·obtain⟨hj,e2⟩:=hp j b e;refine⟨hj,up _ _ (by rintro rfl; rw [hL]at e2; exact absurd (show cK "list"=cK "tuple" from congrArg Obj.cls (aF e2)) (by decide)) (c4 _ _ (by rintro rfl; rw [hI]at e2; exact absurd (show cK "dict_itemiterator"=cK "tuple" from congrArg Obj.cls (aF e2)) (by decide)) e2)⟩
   ·rename_i hn;have ej:j - bs.length=0:=by
     rcases lQ (j - bs.length)with z | z
     ·exact z
     ·rw [bp (by simp; omega)]at e; cases e
    rw [ej]at e;have hj:j=i:=by omega
    subst hj;cases e;exact⟨hi,up _ _ (b9 U4) c3⟩
theorem vZ{Q:List af->aj->Prop}(hh:A.handled=none)(hv:s.heap.get? v=some (zP d))(x:lZ s.heap d es ep)(iT:es.size<=sizeLine)
  (hQ: ∀(h':aY) (bs:List ai),s.heap.objs.size < h'.objs.size->(∀b ob,s.heap.get? b=some ob->h'.get? b=some ob)->bs.length=es.size->(∀b∈bs,s.heap.objs.size<=b)->(∀j b,bs[j]? =some b-> ∃hj:j < es.size,h'.get? b=some (gn es[j]))->Q (bs.map au) {s with heap:=h'}):av (aC prog w) A (collect (.ref v)) Q E s:=by
 have fj:v < s.heap.objs.size:=az hv;have Pu:d < s.heap.objs.size:=let⟨o,k1,_⟩:=x.ex; az k1;unfold collect;refine aa (y7 (dJ xt ?_));rw [cQ xu _];show av _ A.in1 (xr [] >>=fun l=>again (.builtin "list.__iadd__" ⟨[l, .ref v], []⟩)) _ _ s;refine aa (bx ?_);refine ag ⟨d_ gC _,dJ BK ?_⟩;rw [cQ gC _];have x1:lZ (s.heap.push {cls:= .type "list",data:= .seq ([]:List af).toArray}) d es ep:=x.at fun o e=>ah _ e;have AZ:(s.heap.push {cls:= .type "list",data:= .seq ([]:List af).toArray}).get? s.heap.objs.size=some {cls:= .type "list",data:= .seq ([]:List af).toArray}:=aw _ rfl;have h1:gi (.ref s.heap.objs.size) (.ref v)=false:=by simp [gi,b9 fj]
 have ty:gT {s with heap:=s.heap.push {cls:= .type "list",data:= .seq ([]:List af).toArray}} (.ref v) "dict_items":=⟨_,ah _ hv,rfl⟩;show av _ A.in1 (ft (.ref s.heap.objs.size) (.ref v) (.ref s.heap.objs.size)) _ _ _;unfold ft;refine aa (fq ty ?_);rw [if_neg (by rw [h1]; decide)];refine aa (CA (s:={s with heap:=s.heap.push {cls:= .type "list",data:= .seq ([]:List af).toArray}}) (ah _ hv) x1 ?_);refine aa (bP ?_);unfold xv;have x2:lZ ((s.heap.push {cls:= .type "list",data:= .seq ([]:List af).toArray}).push (ir .none (.bool false) .none .none d 0 es.size ep)) d es ep:=x1.at fun o e=>ah _ e;have Po:gT {s with heap:=(s.heap.push {cls:= .type "list",data:= .seq ([]:List af).toArray}).push (ir .none (.bool false) .none .none d 0 es.size ep)} (.ref v) "dict_items":=⟨_,ah _ (ah _ hv),rfl⟩;refine aa (fQ Po PySem.F.slot_dict_items_len.lookup ?_);generalize hid:("dict_items.__len__":String)=id0;dsimp only;rw [show splitId id0=some ("dict_items","__len__")from by subst hid; decide +kernel];subst hid;dsimp only;refine aa (fy (b:=true) Po (by rw [qe]; kernel_rfl) ?_);rw [if_neg (show ¬(!true)=true by decide)];refine eI (fun _=> ?_) fun hs=>(hs (by decide +kernel)).elim;refine aa (fq Po (ag ?_));have Em:(s.heap.push {cls:= .type "list",data:= .seq ([]:List af).toArray}).objs.size=s.heap.objs.size+1:=c8 ..;have ja:s.heap.objs.size≠(s.heap.push {cls:= .type "list",data:= .seq ([]:List af).toArray}).objs.size:=by rw [Em]; exact aN (gA _)
 have ME:(s.heap.push {cls:= .type "list",data:= .seq ([]:List af).toArray}).objs.size≠d:=by rw [Em]; exact b9 (cZ Pu)
 have Bz:((s.heap.push {cls:= .type "list",data:= .seq ([]:List af).toArray}).push (ir .none (.bool false) .none .none d 0 es.size ep)).get? s.heap.objs.size=some {cls:= .type "list",data:= .seq ([]:List af).toArray}:=ah _ AZ;have Ee:((s.heap.push {cls:= .type "list",data:= .seq ([]:List af).toArray}).push (ir .none (.bool false) .none .none d 0 es.size ep)).get? (s.heap.push {cls:= .type "list",data:= .seq ([]:List af).toArray}).objs.size=some (ir .none (.bool false) .none .none d 0 es.size ep):=aw _ rfl;have pZ: ∀b ob,s.heap.get? b=some ob->((s.heap.push {cls:= .type "list",data:= .seq ([]:List af).toArray}).push (ir .none (.bool false) .none .none d 0 es.size ep)).get? b=some ob:=fun b ob e=>ah _ (ah _ e);generalize hI0:(s.heap.push {cls:= .type "list",data:= .seq ([]:List af).toArray}).objs.size=I0 at ja ME Ee Em ⊢;generalize hH0:(s.heap.push {cls:= .type "list",data:= .seq ([]:List af).toArray}).push (ir .none (.bool false) .none .none d 0 es.size ep)=H0 at Bz Ee pZ x2 ⊢;have fin: ∀(h':aY) (c:Nat),bR s.heap.objs.size H0 h'->h'.get? s.heap.objs.size=some {cls:= .type "list",dict:=none,data:= .seq #[] c,slots:= #[]}->
   gj (aC prog w) A (.builtin "list.extend.loop" ⟨[.ref s.heap.objs.size, .ref I0, .ref s.heap.objs.size], []⟩) (fun r s'=>match r with
       | qk (Flow.ret v)=>
        av (aC prog w) A
         (match v with
         | au a=>do
          let dG<-load a
          match dG.data with
           | yY xs epoch=>pure xs.toList
           | x=>ie "internal:collect"
         | x=>ie "internal:collect")
         Q E s'
       | qk a=>False
       | Except.error e=>E e s') {s with heap:=h'}:=fun h' c sb hl=>by
  refine yF (s0:=s) (L:=s.heap.objs.size) (by simpa using hh) iT ja ME (b9 Pu) (m0:=s.heap.objs.size) es.size 0 h' [] c (jw (az hl)) (fun b hb=>by cases hb) (by omega) (bK _) ⟨_,_,_,_, .inl rfl,(sb.2 I0 ja.symm).trans Ee⟩ (x2.at fun o e=>(sb.2 d (aN Pu)).trans e) hl rfl (fun j b e=>by cases e) (fun b ob h1 h2 e=>(sb.2 b h1).trans (pZ b ob e)) (fun h2 bs c' q0 q1 q2 q3 q4=> ?_);dsimp only;refine aa (wpAny_load q1 ?_);refine ag ?_;show Q (bs.map au) _;refine hQ h2 bs (az q1) (fun b ob e=> ?_) q2 q0 q3;have hb:=az e;exact q4 b ob (aN hb) (by rw [Em]; exact aN (cZ hb)) e
 refine eI (fun _=> ?_) fun _=> ?_
 ·refine aa (fE ?_);unfold C7;refine aa (aa (iS Bz rfl ?_ (by show 0<=_; omega) (by show 1<=_; rw [eF]; omega)));have NB:=fR Bz fun x=>x.push bD;refine iS NB rfl ?_ (by show 1<=_; rw [eF]; omega) (by show 0<=_; omega);have Rm:=fR NB fun x=>x.pop;exact ag ⟨d_ cT _,fin _ _ ((bG ..).trans (bG ..)) Rm⟩
 ·exact ag ⟨d_ cT _,fin _ _ (eD _ _) Bz⟩
end
section
variable {prog:aH}{w:aW}{A:bA}{E:af->aj->Prop}{s:aj}{d v:ai}{es:Array eN}{ep:Nat}
theorem zJ{pr:List (af×gH)}{m:Nat}{Q:af->aj->Prop}(hh:A.handled=none)(hu:A.units+8 < cLine)(hd:(d==gI)=false)(x:lZ s.heap d es ep)(iT:es.size<=sizeLine)(he:es.toList.map (·.key)=pr.map (·.1))(y: ∀q∈pr, ∃b,q.1=au b/\T2 prog w s.heap q.2 b)(hm: ∀q∈pr,q.2.length=m)(m0:0 < m)(nk:(pr.map (·.2)).Nodup)
  (h: ∀(h':aY) (tk D:Nat) (out:List af) (c:Nat),s.heap.objs.size<=D->j0 jQ pr out->h'.get? D=some (cV "list" out.toArray c)->(∀b ob,s.heap.get? b=some ob->h'.get? b=some ob)->Q (.ref D) {s with heap:=h',toks:=tk}):
  av (aC prog w) A (call (.builtin "sorted") [.ref d]) Q E s:=by
 refine zf kind_sorted plain_sorted entry_sorted (args_sorted1 _) ?_;unfold dH.«sorted»;refine aa (m:=checkCount "sorted" 1 1 _) (ag ?_);refine aa (Ag (by simpa using hh) hd x iT fun h1 tk hsz hk=> ?_);rw [he];have lp:pr.length=es.size:=by rw [<-ao, <-ae (f:=fun e:eN=>e.key),he,ae]
 refine aa (Bp ?_ (by rw [ae,lp]; exact iT));have KI:(h1.push (cV "list" (pr.map (·.1)).toArray 0)).get? h1.objs.size=some (cV "list" (pr.map (·.1)).toArray 0):=aw _ rfl;have pZ: ∀b ob,s.heap.get? b=some ob->(h1.push (cV "list" (pr.map (·.1)).toArray 0)).get? b=some ob:=fun b ob e=>ah _ (hk b ob e);have PY: ∀b ob,s.heap.get? b=some ob->b≠h1.objs.size:=fun b ob e=>aN (jC (az e) hsz);show av _ _ _ _ _ {s with heap:=h1.push (cV "list" (pr.map (·.1)).toArray 0),toks:=tk};refine aa (bP (bU slot_list_sort ⟨_,KI,rfl⟩ NQ ?body (args_list_sort _)))
 case body=>
  refine Dl (s:={s with heap:=h1.push (cV "list" (pr.map (·.1)).toArray 0),toks:=tk}) (pr:=pr) (m:=m) (by simp only [iB]; omega) KI (by rw [lp]; exact iT) (fun q hq=> ?_) hm m0 nk fun h' out c Kg mK J0=> ?_
  ·obtain⟨b,e,t⟩:=y q hq;exact⟨b,e,t.keep fun c o _ z=>pZ c o z⟩
  ·exact⟨_,rfl,ag ⟨_,rfl,h h' tk h1.objs.size out c (jw hsz) Kg mK fun b ob e=>J0 b ob (PY b ob e) (pZ b ob e)⟩⟩
theorem LP{h:aY}{a b:ai}{rs:gH}{n:Int}{t:Tok}{e:eN}(ha:h.get? a=some (gn e))(hk:e.key= .ref b)(hv:e.val= .int n t)(x:T2 prog w h rs b):T3 prog w h (rs,n) a:=by
 refine⟨_,0,b,t,ha,rfl, ?_,x⟩;show yY #[e.key,e.val] 0=_;rw [hk,hv]
theorem xE{ks:List (gH×Int)}{Q:af->aj->Prop}(hh:A.handled=none)(hu:A.units+8 < cLine)(hv:s.heap.get? v=some (zP d))(x:lZ s.heap d es ep)(iT:es.size<=sizeLine)(hl:ks.length=es.size)(y: ∀j (hj:j < es.size), ∃b t,es[j].key=au b/\es[j].val= .int (ks[j]'(by omega)).2 t/\T2 prog w s.heap (ks[j]'(by omega)).1 b)(nk:ks.Nodup)
  (h: ∀(h':aY) (D:Nat) (bs:List ai) (out:List af) (c:Nat),s.heap.objs.size<=D->bs.length=ks.length->(∀b∈bs,s.heap.objs.size<=b)->(∀j b,bs[j]? =some b-> ∃hj:j < es.size,h'.get? b=some (gn es[j]))->j0 mB ((bs.map au).zip ks) out->h'.get? D=some (cV "list" out.toArray c)->(∀b ob,s.heap.get? b=some ob->h'.get? b=some ob)->Q (.ref D) {s with heap:=h'}):
  av (aC prog w) A (call (.builtin "sorted") [.ref v]) Q E s:=by
 refine zf kind_sorted plain_sorted entry_sorted (args_sorted1 _) ?_;unfold dH.«sorted»;refine aa (m:=checkCount "sorted" 1 1 _) (ag ?_);refine aa (vZ (by simpa using hh) hv x iT fun h1 bs hsz hk Va p8 hb=> ?_);refine aa (Bp ?_ (by rw [ae,Va]; exact iT));have KI:(h1.push (cV "list" (bs.map au).toArray 0)).get? h1.objs.size=some (cV "list" (bs.map au).toArray 0):=aw _ rfl;have pZ: ∀b ob,h1.get? b=some ob->(h1.push (cV "list" (bs.map au).toArray 0)).get? b=some ob:=fun b ob e=>ah _ e;have PY: ∀b ob,h1.get? b=some ob->b≠h1.objs.size:=fun b ob e=>aN (az e);have e1:((bs.map au).zip ks).map (·.1)=bs.map au:=List.map_fst_zip (by rw [ae]; omega);have e2:((bs.map au).zip ks).map (·.2)=ks:=nu (by rw [ae]; omega);show av _ _ _ _ _ {s with heap:=h1.push (cV "list" (bs.map au).toArray 0)};refine aa (bP (bU slot_list_sort ⟨_,KI,rfl⟩ NQ ?body (args_list_sort _)))
 case body=>
  refine LD (s:={s with heap:=h1.push (cV "list" (bs.map au).toArray 0)}) (pr:=(bs.map au).zip ks) (by simp only [iB]; omega) (by rw [e1]; exact KI) (by rw [cw,ae]; omega) (fun q hq=> ?_) (by rw [e2]; exact nk) fun h' out c Kg mK J0=> ?_
  ·obtain⟨j,hj,rfl⟩:=aT.mp hq;rw [cw,ae]at hj;have Mz:j < bs.length:=by omega
   have Gi:j < es.size:=by omega
   obtain⟨_,hp⟩:=hb j bs[j] (ak Mz);obtain⟨b,t,y1,y2,y3⟩:=y j Gi;rw [gD];refine⟨bs[j],by rw [a8], ?_⟩;exact LP (pZ _ _ hp) y1 y2 (y3.keep fun c o _ z=>pZ _ _ (hk c o z))
  ·refine⟨_,rfl,ag ⟨_,rfl,h h' h1.objs.size bs out c (jw hsz) (by omega) p8 (fun j b e=> ?_) Kg mK fun b ob e=>J0 b ob (PY b ob (hk b ob e)) (pZ b ob (hk b ob e))⟩⟩;obtain⟨hj,q⟩:=hb j b e;exact⟨hj,J0 b _ (PY b _ q) (pZ b _ q)⟩
end
section
variable {prog:aH}{w:aW}{K:Type} [DecidableEq K]{knd:HeapKind prog w K}{A:bA}{E:af->aj->Prop}{s:aj}{env:Env}
theorem Gu{k v:Expr}{pos:Pos}{Q:af->aj->Prop}(hu:knd.room A)
  (h:av (aC prog w) A (bV k env) (fun kv s1=>av (aC prog w) A (bV v env) (fun vv s2=> ∃a r,kv= .ref a/\knd.is s2.heap r a/\s2.heap.DictOfH knd s.heap.objs.size []/\
   ∀h',h'.DictOfH knd s.heap.objs.size [(r,a,vv)]->bR s.heap.objs.size s2.heap h'->Q (.ref s.heap.objs.size) {s2 with heap:=h',toks:=s2.toks+knd.draws r}) E s1) E {s with heap:=s.heap.push {cls:= .type "dict",data:= .dict #[]}}):
  av (aC prog w) A (bV (.Dict [some k] [v] pos) env) Q E s:=by
 rw [arm_eval_Dict,zip_pairTrees [some k] [v] env pos rfl rfl,dictDisplay_pairs _ (by simp [pairTrees]) (by simp [pairTrees])];refine aa (mL (aa ?_));unfold subDict;refine aa (wpAny_alloc ?_);refine aa (bP ?_);rw [if_pos (by simp [pairTrees])];refine aa (pairTrees_cons_walk (b_ h (fun kv s1 h1=>b_ h1 (fun vv s2 h2=>pairTrees_nil_walk ?_) fun _ _ e=>e) fun _ _ e=>e));obtain⟨a,r,rfl,hk,hm,hQ⟩:=h2;refine bP ?_;rw [cJ];refine aa (aa (aa (wpAny_dictSet_heap (hsz:=by show 0<=_; omega) hu hk hm fun h' Mx Kx=>ag ?_)));dsimp only;rw [eT];refine ag (ag (ag (ag ?_)));exact hQ h' Mx Kx
end
end Z
namespace Z
section
variable {α:Type} [DecidableEq α]
def visit(h:Int)(kv:List (α×Int))(k:α):List (α×Int):=if k∈kv.map (·.1)then kv else kv ++ [(k,h+1)]
def pC(nb:α->List α)(kv:List (α×Int))(d:Nat):List (α×Int):=match kv[d]? with
 | some (k,h)=>(nb k).foldl (visit h) kv
 | none=>kv
def Lb(nb:α->List α):Nat->List (α×Int)->Nat->List (α×Int)
 | 0,kv,_=>kv
 | n+1,kv,d=>if d < kv.length then Lb nb n (pC nb kv d) (d+1)else kv
variable {nb:α->List α}{g:α}
structure BI(nb:α->List α)(g:α)(kv:List (α×Int))(d:Nat):Prop where
 fst:kv[0]? =some (g,0)
 nd:(kv.map (·.1)).Nodup
 par: ∀(j:Nat) k h,kv[j]? =some (k,h)->0 < j-> ∃i k' h',i < j/\i < d/\kv[i]? =some (k',h')/\k∈nb k'/\h=h'+1
 L6: ∀(i:Nat) k h,i < d->kv[i]? =some (k,h)-> ∀k'∈nb k, ∃h',(k',h')∈kv/\h'<=h+1
 asc: ∀(i j:Nat) k h k' h',i<=j->kv[i]? =some (k,h)->kv[j]? =some (k',h')->h<=h'
 top: ∀(i:Nat) k h k' h',d<=i->kv[i]? =some (k,h)->(k',h')∈kv->h'<=h+1
theorem BI.start:BI nb g [(g,0)] 0:=by
 refine⟨rfl,by simp,fun j k h e hj=> ?_,fun i k h hi=>absurd hi (by omega),fun i j k h k' h' kS e1 e2=> ?_,fun i k h k' h' _ e1 e2=> ?_⟩
 ·rw [bp (by simp; omega)]at e; cases e
 ·have h1:i=0:=by
   rcases lQ i with z | z
   ·exact z
   ·rw [bp (by simp; omega)]at e1; cases e1
  have h2:j=0:=by
   rcases lQ j with z | z
   ·exact z
   ·rw [bp (by simp; omega)]at e2; cases e2
  subst h1 h2;rw [e1]at e2;cases e2;exact F_ _
 ·have h1:i=0:=by
   rcases lQ i with z | z
   ·exact z
   ·rw [bp (by simp; omega)]at e1; cases e1
  subst h1;cases e1;have:(k',h')=(g,0):=by simpa using e2
  cases this
  decide
structure BM(nb:α->List α)(g:α)(kv:List (α×Int))(d:Nat)(k0:α)(h0:Int)(l:List α):Prop where
 fst:kv[0]? =some (g,0)
 nd:(kv.map (·.1)).Nodup
 at_:kv[d]? =some (k0,h0)
 par: ∀(j:Nat) k h,kv[j]? =some (k,h)->0 < j-> ∃i k' h',i < j/\i < d+1/\kv[i]? =some (k',h')/\k∈nb k'/\h=h'+1
 L6: ∀(i:Nat) k h,i < d->kv[i]? =some (k,h)-> ∀k'∈nb k, ∃h',(k',h')∈kv/\h'<=h+1
 now: ∀k'∈l, ∃h',(k',h')∈kv/\h'<=h0+1
 asc: ∀(i j:Nat) k h k' h',i<=j->kv[i]? =some (k,h)->kv[j]? =some (k',h')->h<=h'
 top: ∀k' h',(k',h')∈kv->h'<=h0+1
theorem BM.visit{kv:List (α×Int)}{d:Nat}{k0:α}{h0:Int}{l:List α}(b:BM nb g kv d k0 h0 l){k:α}(hk:k∈nb k0):BM nb g (visit h0 kv k) d k0 h0 (l ++ [k]):=by
 unfold Z.visit
 by_cases e:k∈kv.map (·.1)
 ·rw [if_pos e];refine⟨b.fst,b.nd,b.at_,b.par,b.L6,fun k' kW=> ?_,b.asc,b.top⟩
  rcases bO.mp kW with z | z
  ·exact b.now k' z
  ·rcases aJ.mp z with rfl
   obtain⟨⟨k1,h1⟩,h2,rfl⟩:=aE.mp e;exact⟨h1,h2,b.top _ _ h2⟩
 ·rw [if_neg e];have up: ∀{i:Nat} {x:α×Int},kv[i]? =some x->(kv ++ [(k,h0+1)])[i]? =some x:=fun{i x} z=>by rw [cS (aB.mp z).1]; exact z
  have cs: ∀{i:Nat} {x:α×Int},(kv ++ [(k,h0+1)])[i]? =some x->kv[i]? =some x\/(i=kv.length/\x=(k,h0+1)):=fun{i x} z=>by
   rcases KY i kv.length with y | y | y
   ·rw [cS y]at z; exact .inl z
   ·subst y; rw [cL (ay _),gL]at z; exact .inr ⟨rfl,by cases z; rfl⟩
   ·rw [bp (by rw [aq,cj]; omega)]at z; cases z
  have hd:=(aB.mp b.at_).1;refine⟨up b.fst, ?_,up b.at_,fun j k1 h1 z hj=> ?_,fun i k1 h1 hi z k' kW=> ?_,fun k' kW=> ?_,fun i j k1 h1 k2 h2 kS z1 z2=> ?_,fun k' h' z=> ?_⟩
  ·rw [bw,jA];refine⟨b.nd,by simp,fun x hx y hy=> ?_⟩
   rcases aJ.mp hy with rfl
   rintro rfl;exact e hx
  ·rcases cs z with z | ⟨rfl,q⟩
   ·obtain⟨i,k',h',a1,a2,a3,a4⟩:=b.par j k1 h1 z hj;exact⟨i,k',h',a1,a2,up a3,a4⟩
   ·cases q;exact⟨d,k0,h0,hd,by omega,up b.at_,hk,rfl⟩
  ·rcases cs z with z | ⟨rfl,z⟩
   ·obtain⟨h',a1,a2⟩:=b.L6 i k1 h1 hi z k' kW;exact⟨h',fU _ a1,a2⟩
   ·omega
  ·rcases bO.mp kW with z | z
   ·obtain⟨h',a1,a2⟩:=b.now k' z;exact⟨h',fU _ a1,a2⟩
   ·rcases aJ.mp z with rfl
    exact⟨h0+1,by simp,F_ _⟩
  ·rcases cs z1 with z1 | ⟨rfl,q1⟩
   ·rcases cs z2 with z2 | ⟨rfl,q⟩
    ·exact b.asc i j k1 h1 k2 h2 kS z1 z2
    ·cases q;exact b.top _ _ (aR z1)
   ·rcases cs z2 with z2 | ⟨hq,q2⟩
    ·have:=(aB.mp z2).1;omega
    ·cases q1; cases q2; exact F_ _
  ·rcases bO.mp z with z | z
   ·exact b.top k' h' z
   ·cases aJ.mp z;exact F_ _
theorem BM.all{d:Nat}{k0:α}{h0:Int}: ∀(m l:List α) {kv:List (α×Int)},BM nb g kv d k0 h0 l->(∀k∈m,k∈nb k0)->BM nb g (m.foldl (Z.visit h0) kv) d k0 h0 (l ++ m)
 | [],l,kv,b,_=>by rw [bz]; exact b
 | k::m,l,kv,b,hm=>by
  have:=BM.all m (l ++ [k]) (b.visit (hm k (.head _))) fun x hx=>hm x (.tail _ hx);rw [aO]at this;exact this
theorem BI.mid{kv:List (α×Int)}{d:Nat}{k0:α}{h0:Int}(b:BI nb g kv d)(e:kv[d]? =some (k0,h0)):BM nb g kv d k0 h0 []:=
 ⟨b.fst,b.nd,e,fun j k h z hj=>let⟨i,k',h',a1,a2,a3⟩:=b.par j k h z hj; ⟨i,k',h',a1,by omega,a3⟩,b.L6,fun k' kW=>(by cases kW),b.asc,fun k' h' z=>b.top d k0 h0 k' h' (ay _) e z⟩
theorem BM.next{kv:List (α×Int)}{d:Nat}{k0:α}{h0:Int}(b:BM nb g kv d k0 h0 (nb k0)):BI nb g kv (d+1):=by
 refine⟨b.fst,b.nd,b.par,fun i k h hi z k' kW=> ?_,b.asc,fun i k h k' h' hi z1 z2=> ?_⟩
 ·by_cases hid:i=d
  ·subst hid;rw [b.at_]at z;cases z;exact b.now k' kW
  ·exact b.L6 i k h (by omega) z k' kW
 ·have h1:=b.top k' h' z2;have h2:=b.asc d i _ _ _ _ (by omega) b.at_ z1;omega
theorem BI.step{kv:List (α×Int)}{d:Nat}(b:BI nb g kv d)(hd:d < kv.length):BI nb g (pC nb kv d) (d+1):=by
 have e:kv[d]? =some (kv[d].1,kv[d].2):=ak hd;unfold pC;rw [e];have:=BM.all (nb kv[d].1) [] (b.mid e) fun k hk=>hk;exact BM.next this
theorem Fg(h:Int)(kv:List (α×Int))(k:α):kv <+:visit h kv k:=by
 unfold visit
 split
 ·exact MS _
 ·exact List.prefix_append _ _
theorem pS(h:Int): ∀(m:List α) (kv:List (α×Int)),kv <+:m.foldl (visit h) kv
 | [],kv=>MS _
 | k::m,kv=>(Fg h kv k).trans (pS h m _)
theorem wM(kv:List (α×Int))(d:Nat):kv <+:pC nb kv d:=by
 unfold pC
 split
 ·exact pS _ _ _
 ·exact MS _
theorem pL{P:α->Prop}(h:Int): ∀(m:List α) (kv:List (α×Int)),(∀x∈kv,P x.1)->(∀k∈m,P k)-> ∀x∈m.foldl (visit h) kv,P x.1
 | [],kv,hk,_=>hk
 | k::m,kv,hk,hm=>by
  refine pL h m _ ?_ fun x hx=>hm x (.tail _ hx);unfold visit
  split
  ·exact hk
  ·intro x hx
   rcases bO.mp hx with hx | hx
   ·exact hk x hx
   ·rcases aJ.mp hx with rfl
    exact hm k (.head _)
theorem xa{P:α->Prop}{kv:List (α×Int)}{d:Nat}(hc: ∀k,P k-> ∀k'∈nb k,P k')(hk: ∀x∈kv,P x.1): ∀x∈pC nb kv d,P x.1:=by
 unfold pC
 split
 ·rename_i k h e;exact pL h _ kv hk fun k' kW=>hc k (hk _ (aR e)) k' kW
 ·exact hk
theorem yE{β:Type} [DecidableEq β]: ∀{l m:List β},l.Nodup->(∀x∈l,x∈m)->l.length<=m.length
 | [],m,_,_=>bK _
 | x::l,m,hn,hs=>by
  have hx:=hs x (.head _);have:=yE (l:=l) (m:=m.erase x) (eG.mp hn).2 fun y hy=>(List.mem_erase_of_ne fun z:y=x=>(eG.mp hn).1 (z▸hy)).mpr (hs y (.tail _ hy));rw [List.length_erase_of_mem hx]at this;have h0:=List.length_pos_of_mem hx;rw [aK];omega
theorem C_{P:α->Prop}{N:Nat}(hc: ∀k,P k-> ∀k'∈nb k,P k')(hN: ∀kv:List (α×Int),(kv.map (·.1)).Nodup->(∀x∈kv,P x.1)->kv.length<=N):
  ∀(n:Nat) (kv:List (α×Int)) (d:Nat),BI nb g kv d->(∀x∈kv,P x.1)->d<=kv.length->N<=n+d-> ∃d',BI nb g (Lb nb n kv d) d'/\(∀x∈Lb nb n kv d,P x.1)/\(Lb nb n kv d).length<=d'
 | 0,kv,d,b,hp,hd,hn=>⟨d,b,hp,by have:=hN kv b.nd hp; show kv.length<=d; omega⟩
 | n+1,kv,d,b,hp,hd,hn=>by
  unfold Lb
  by_cases h:d < kv.length
  ·rw [if_pos h];have:=(wM (nb:=nb) kv d).length_le;exact C_ hc hN n _ (d+1) (b.step h) (xa hc hp) (by omega) (by omega)
  ·rw [if_neg h];exact⟨d,b,hp,by omega⟩
structure BE(nb:α->List α)(g:α)(kv:List (α×Int)):Prop where
 nd:(kv.map (·.1)).Nodup
 goal:(g,0)∈kv
 L6: ∀k h,(k,h)∈kv-> ∀k'∈nb k, ∃h',(k',h')∈kv/\h'<=h+1
 par: ∀k h,(k,h)∈kv->(k=g/\h=0)\/ ∃k' h',(k',h')∈kv/\k∈nb k'/\h=h'+1
 nn: ∀k h,(k,h)∈kv->0<=h
theorem BI.fin{kv:List (α×Int)}{d:Nat}(b:BI nb g kv d)(hd:kv.length<=d):BE nb g kv:=by
 refine⟨b.nd,aR b.fst,fun k h hk=> ?_,fun k h hk=> ?_,fun k h hk=> ?_⟩
 ·obtain⟨i,hi,e⟩:=aT.mp hk;exact b.L6 i k h (by omega) (by rw [ak hi,e])
 ·obtain⟨i,hi,e⟩:=aT.mp hk
  rcases lQ i with rfl | z
  ·have:=b.fst;rw [ak hi,e]at this;cases this;exact .inl ⟨rfl,rfl⟩
  ·obtain⟨j,k',h',_,_,a3,a4,a5⟩:=b.par i k h (by rw [ak hi,e]) z;exact .inr ⟨k',h',aR a3,a4,a5⟩
 ·obtain⟨i,hi,e⟩:=aT.mp hk;exact b.asc 0 i g 0 k h (bK _) b.fst (by rw [ak hi,e])
theorem BE.uniq{kv:List (α×Int)}(b:BE nb g kv){k:α}{h h':Int}(h1:(k,h)∈kv)(h2:(k,h')∈kv):h=h':=by
 obtain⟨i,hi,e1⟩:=aT.mp h1;obtain⟨j,hj,e2⟩:=aT.mp h2;have:i=j:=by
  refine(m_ (xs:=kv.map (·.1)) (h₀:=by rw [ae]; exact hi) (h₁:=by rw [ae]; exact hj) b.nd).mp ?_;rw [a8,a8,e1,e2]
 subst this;rw [e1]at e2;cases e2;rfl
end
section
variable {β:Type}
def words(l:List β):Nat->List (List β)
 | 0=> [[]]
 | n+1=>l.flatMap fun x=>(words l n).map (x:: ·)
theorem l9{l:List β}: ∀{n:Nat} {w:List β},w.length=n->(∀x∈w,x∈l)->w∈words l n
 | 0, [],_,_=> .head _
 | n+1,x::w,hl,hx=>by
  unfold words;refine vH.mpr ⟨x,hx x (.head _),aE.mpr ⟨w,l9 (by simpa using hl) fun y hy=>hx y (.tail _ hy),rfl⟩⟩
theorem oN(l:List β): ∀n:Nat,(words l n).length=l.length ^ n
 | 0=>rfl
 | n+1=>by
  unfold words;rw [Gn];have:(l.map fun x=>((words l n).map (x:: ·)).length)=l.map fun _=>l.length ^ n:=Gp fun x _=>by rw [ae,oN l n]
  rw [this,NR,C9,Nat.pow_succ,Nat.mul_comm]
end
theorem xF: ∀{a b:List (List Int)},a.flatten=b.flatten->a.map eS=b.map eS->a=b
 | [], [],_,_=>rfl
 | [],_::_,_,h=>by simp at h
 | _::_, [],_,h=>by simp at h
 | x::a,y::b,h1,h2=>by
  rw [a9,a9]at h2;injection h2 with e1 e2;rw [cO,cO]at h1;obtain⟨e3,e4⟩:=List.append_inj h1 e1;rw [e3,xF e4 e2]
theorem n8{r:List Int}: ∀{a:List (List Int)},r∈a->r.length<=a.flatten.length
 | x::a,h=>by
  rw [cO,aq]
  rcases aV.mp h with rfl | h
  ·omega
  ·have:=n8 h;omega
def Of(c:List Int)(m:Nat)(k:List (List Int)):Prop:=k.flatten.Perm c/\k.length=m
theorem OG{c:List Int}{m:Nat}(hc:c.length<=4)(hm:m<=4){kv:List (List (List Int)×Int)}(nd:(kv.map (·.1)).Nodup)(h: ∀x∈kv,Of c m x.1):kv.length<=160000:=by
 have e:(kv.map (·.1)).length=kv.length:=ae _;have Ro:((kv.map (·.1)).map fun k=>(k.flatten,k.map eS)).Nodup:=by
  refine List.Pairwise.map _ (fun a b qV z=>qV ?_) nd;exact xF (k7.mp z).1 (k7.mp z).2
 have sub: ∀x∈(kv.map (·.1)).map (fun k=>(k.flatten,k.map eS)),x∈(words c c.length).flatMap fun u=>(words (bj (c.length+1)) m).map fun v=>(u,v):=fun x hx=>by
  obtain⟨k,hk,rfl⟩:=aE.mp hx;obtain⟨p,hp,rfl⟩:=aE.mp hk;obtain⟨h1,h2⟩:=h p hp;refine vH.mpr ⟨_,l9 h1.length_eq fun y hy=>h1.mem_iff.mp hy,aE.mpr ⟨_,l9 (by rw [ae]; exact h2) fun y hy=> ?_,rfl⟩⟩;obtain⟨r,hr,rfl⟩:=aE.mp hy;have:=n8 hr;rw [h1.length_eq]at this;exact cy.mpr (by omega)
 have:=yE Ro sub;rw [ae,e,Gn]at this;have q:((words c c.length).map fun u=>((words (bj (c.length+1)) m).map fun v=>(u,v)).length)=(words c c.length).map fun _=>(c.length+1) ^ m:=Gp fun x _=>by rw [ae,oN,bS]
 rw [q,NR,C9,oN]at this;refine bg this ?_;generalize c.length=n at hc;have a1:n=0\/n=1\/n=2\/n=3\/n=4:=by omega
 have a2:m=0\/m=1\/m=2\/m=3\/m=4:=by omega
 clear this h nd Ro sub e q hm
 rcases a1 with rfl | rfl | rfl | rfl | rfl <;> rcases a2 with rfl | rfl | rfl | rfl | rfl <;> decide
end Z
namespace Z
open PySem PySem.Spec PyProof.Rows L2
def r8(r:List Int):D:= .tup (r.map .int)
def f9(rs:gH):D:= .tup (rs.map r8)
abbrev o4:=List (gH×Int)
def oI(kv:o4):D:= .dct none (kv.map fun x=>f9 x.1) (kv.map (·.2))
theorem xb: ∀r:List Int,jo (r.map .int)=r.map hashInt
 | []=>rfl
 | x::r=>by rw [a9,a9, <-xb r]; rfl
theorem Ho(P:aH)(w:aW)(r:List Int):qx (r8 r)=(lu (gJ P w)).hash r:=by
 show yZ (fN (jo (r.map .int)))=_;rw [xb];rfl
theorem wG(P:aH)(w:aW): ∀rs:gH,jo (rs.map r8)=rs.map (lu (gJ P w)).hash
 | []=>rfl
 | x::r=>by
  rw [a9,a9, <-wG P w r, <-Ho P w x];rfl
theorem yw(P:aH)(w:aW)(rs:gH):qx (f9 rs)=wW P w rs:=by
 show yZ (fN (jo (rs.map r8)))=_;rw [wG P w];rfl
section
variable {X:Cx}{pins:List (ai×Obj)}{σ:St}{H:Hp}{s:aj}{M:MP}
theorem zu: ∀{r:List Int} {us:List af},Vals (r.map V.int) us->qg (gJ X.prog X.w) r us
 | [],_,h=>by rw [sC]at h; cases h; exact .nil
 | x::r,_,h=>by
  rw [a9]at h;cases h with
  | cons a t=>
   obtain⟨tk,rfl⟩:=(show ∃t,_=gR x t from a);exact .cons (by show Value.isInt x (.int x tk)=true; simp [Value.isInt]) (zu t)
theorem Nb(I:Inv X pins σ H s){r:List Int}{v:V}{u:af}(h:Dn X.K M H (r8 r) v)(rv:RelV v u): ∃b,u= .ref b/\T1 X.prog X.w s.heap r b:=by
 obtain⟨a,xs,rfl,sq,dn⟩:=h;cases (show u=au a from rv);obtain⟨its,rr,⟨o,e1,e2,m,e3⟩,_⟩:=I.tuple sq;rw [cU.ints dn]at rr;exact⟨a,rfl,o,its.toArray,m,e1,e2,e3,by simpa using zu rr⟩
theorem Ir(I:Inv X pins σ H s): ∀{rs:gH} {vs:List V} {us:List af},cU X.K M H (rs.map r8) vs->Vals vs us->qR X.prog X.w s.heap rs us
 | [],vs,us,h,r=>by cases (show vs= []from h); cases r; exact .nil
 | x::rs,vs,us,h,r=>by
  obtain⟨v,t,rfl,h1,h2⟩:=h;cases r with
  | cons r1 r2=>
   obtain⟨b,rfl,t1⟩:=Nb I h1 r1;exact .cons t1 (Ir I h2 r2)
theorem rW(I:Inv X pins σ H s){rs:gH}{v:V}{u:af}(h:Dn X.K M H (f9 rs) v)(rv:RelV v u): ∃b,u= .ref b/\v= .ref b/\T2 X.prog X.w s.heap rs b:=by
 obtain⟨a,xs,rfl,sq,dn⟩:=h;cases (show u=au a from rv);obtain⟨its,rr,⟨o,e1,e2,m,e3⟩,_⟩:=I.tuple sq;exact⟨a,rfl,rfl,o,its.toArray,m,e1,e2,e3,by simpa using Ir I dn rr⟩
theorem tf: ∀{kv:o4} {bs:List ai} {es:List eN},bs.length=kv.length->oV (qD (kv.map fun x=>f9 x.1) bs (kv.map (·.2))) es-> ∃xs:List (gH×ai×af),es=xs.map (yV (kh X.prog X.w))/\xs.length=kv.length/\ ∀j (hj:j < kv.length) (hx:j < xs.length) (hb:j < bs.length), ∃t,xs[j]=(kv[j].1,bs[j],valN kv[j].2 t)
 | [],bs,es,hb,h=>by
  cases es with
  | nil=>exact⟨[],rfl,rfl,fun j hj=>absurd hj (by simp)⟩
  | cons e es=>cases bs <;> exact h.elim
 | x::kv, [],es,hb,h=>by simp at hb
 | x::kv,b::bs,es,hb,h=>by
  cases es with
  | nil=>exact h.elim
  | cons e es=>
   obtain⟨⟨t,e1⟩,h2⟩:=h;obtain⟨xs,a1,a2,a3⟩:=tf (kv:=kv) (bs:=bs) (es:=es) (by simpa using hb) h2;refine⟨(x.1,b,valN x.2 t)::xs, ?_,by rw [aK,a2]; rfl,fun j hj hx Z6=> ?_⟩
   ·rw [a9,a1,e1];show(⟨qx (f9 x.1), .ref b,valN x.2 t⟩:eN)::_=_;rw [yw X.prog X.w];rfl
   ·cases j with
    | zero=>exact⟨t,rfl⟩
    | succ j=>exact a3 j (by simpa using hj) (by simpa using hx) (by simpa using Z6)
theorem cU.refs{ks:List D}{bs:List ai}{K:Frag}(h:cU K M H ks (bs.map V.ref)){j:Nat}{k:D}{b:ai}(h1:ks[j]? =some k)(h2:bs[j]? =some b):Dn K M H k (.ref b):=by
 obtain⟨v,e,d⟩:=h.get h1;rw [aA,h2]at e;cases e;exact d
structure Ah(X:Cx)(s:aj)(kv:o4)(a:ai)(xs:List (gH×ai×af)):Prop where
 no:(a==gI)=false
 d:s.heap.DictOfH (kh X.prog X.w) a xs
 len:xs.length=kv.length
 it: ∀j (hj:j < kv.length) (hx:j < xs.length), ∃b t,xs[j]=(kv[j].1,b,valN kv[j].2 t)
theorem MW(I:Inv X pins σ H s){kv:o4}{a:ai}{bs:List ai}(nd:(kv.map (·.1)).Nodup)(h: ∃o,H a=some (jZ a o (qD (kv.map fun x=>f9 x.1) bs (kv.map (·.2)))))(hb:bs.length=kv.length)(dn:cU X.K M H (kv.map fun x=>f9 x.1) (bs.map V.ref)): ∃xs,Ah X s kv a xs:=by
 obtain⟨o,h⟩:=h;obtain⟨⟨no,es,ep,h1,h2,h3,h4⟩,_⟩:=(show fJ X.prog X.w H s.heap a (jZ a o _)from I.fb a _ h);obtain⟨xs,a1,a2,a3⟩:=tf (X:=X) hb h4;have ks:xs.map (·.1)=kv.map (·.1):=by
  apply List.ext_getElem (by rw [ae,ae,a2]);intro j Mz Gi;rw [ae]at Mz Gi;obtain⟨t,e⟩:=a3 j Gi Mz (by omega);rw [a8,a8,e]
 refine⟨xs,no,⟨o,es,ep,h1,h2,h3,a1,fun x hx=> ?_,by rw [ks]; exact nd⟩,a2,fun j hj hx=> ?_⟩
 ·obtain⟨j,hj,rfl⟩:=aT.mp hx;have Gi:j < kv.length:=by omega
  obtain⟨t,e⟩:=a3 j Gi hj (by omega);rw [e];have d:=dn.refs (j:=j) (k:=f9 kv[j].1) (b:=bs[j]'(by omega)) (by rw [aA,ak Gi]; rfl) (ak _);obtain⟨b,e2,_,t2⟩:=rW I d (u:= .ref (bs[j]'(by omega))) rfl;cases e2;exact t2
 ·obtain⟨t,e⟩:=a3 j hj hx (by omega);exact⟨_,t,e⟩
theorem Ah.look{kv:o4}{a:ai}{xs:List (gH×ai×af)}(x:Ah X s kv a xs){k:gH}{n:Int}(h:(k,n)∈kv): ∃b t,atKey xs k=some (b,valN n t):=by
 obtain⟨j,hj,e⟩:=aT.mp h;have hl:=x.len;obtain⟨b,t,e2⟩:=x.it j hj (by omega);obtain⟨o,es,ep,_,_,_,_,_,nd⟩:=x.d;refine⟨b,t,atKey_of_get nd (i:=j) ?_⟩;rw [ak (by omega),e2,e]
theorem Ah.miss{kv:o4}{a:ai}{xs:List (gH×ai×af)}(x:Ah X s kv a xs){k:gH}(h:k∉kv.map (·.1)):atKey xs k=none:=by
 refine atKey_none_of_get fun j p e=>h ?_;obtain⟨hj,e⟩:=aB.mp e;have hl:=x.len;obtain⟨b,t,e2⟩:=x.it j (by omega) hj;rw [e]at e2;cases e2;exact aE.mpr ⟨_,aX (by omega:j < kv.length),rfl⟩
theorem Ah.has{kv:o4}{a:ai}{xs:List (gH×ai×af)}(x:Ah X s kv a xs)(k:gH):(atKey xs k).isSome=decide (k∈kv.map (·.1)):=by
 by_cases h:k∈kv.map (·.1)
 ·obtain⟨⟨k',n⟩,hm,rfl⟩:=aE.mp h;obtain⟨b,t,e⟩:=x.look hm;rw [e,decide_eq_true h];rfl
 ·rw [x.miss h,decide_eq_false h];rfl
end
section
variable {X:Cx}{ρ:fB}{a b e:Expr}{pos p:Pos}{kv:o4}{k:gH}{n:Int}
def Ss(K:Frag)(kv:o4):V->Hp->Prop:=fun x H=> ∃M,Dn K M H (oI kv) x
theorem Ss.at{pins:List (ai×Obj)}{σ:St}{H:Hp}{s:aj}{x:V}{u:af}(nd:(kv.map (·.1)).Nodup)(I:Inv X pins σ H s)(h:Ss X.K kv x H)(r:RelV x u): ∃a xs,u= .ref a/\Ah X s kv a xs:=by
 obtain⟨M,a,bs,rfl,h1,h2,h3,h4⟩:=h;cases (show u=au a from r);rw [ae]at h2;obtain⟨xs,q⟩:=MW I nd (h1.imp fun _ z=>z.2) h2 h4;exact⟨a,xs,rfl,q⟩
theorem Qo(hu:X.A.units+8 < cLine)(nd:(kv.map (·.1)).Nodup)(hm:(k,n)∈kv)(hn:n≠ -1):Sn X (fun x y H Q=>Ss X.K kv x H/\(∃M,Dn X.K M H (f9 k) y)/\Q (.int n) H):=by
 intro value slice pins s σ H x y v u Q I rx ry ⟨h1,⟨M,h2⟩,q⟩ hs;obtain⟨a,xs,rfl,dc⟩:=h1.at nd I rx;obtain⟨b,rfl,_,t2⟩:=rW I h2 ry;obtain⟨c,t,e⟩:=dc.look hm;rw [ux hn]at e;exact C5 (x:= .int n t) dc.d.typeIs slot_dict_getitem.lookup (wpAny_getItem_heap (knd:=kh X.prog X.w) (Q:=fun r s'=>r= .int n t/\EP X pins σ Q r s') (by show X.A.in1.units+2 < cLine; rw [iB]; omega) t2 dc.d e ⟨rfl, .int n,H,I.tok _,⟨t,rfl⟩,q⟩) hs
theorem ar.dget(hu:X.A.units+8 < cLine)(nd:(kv.map (·.1)).Nodup)(hm:(k,n)∈kv)(ha:ar X ρ a (oI kv))(hb:ar X ρ b (f9 k))(hs:qA b:=by intro _ _; rfl)(hn:n≠ -1:=by omega):ar X ρ (.Subscript a b pos) (.int n):=
 fun M0 H0 γ α σ H Q R kk=>(Dt (Qo hu nd hm hn) iE iE hs).to (ha M0 H0 γ α σ H _ R fun v H1 s1 d1=>hb M0 H0 γ α σ H1 _ (R.next s1) fun u H2 s2 d2=>⟨⟨_,d1.same s2⟩,⟨_,d2⟩,kk _ H2 (s1.trans s2) rfl⟩)
theorem Cn(hu:X.A.units+8 < cLine)(nd:(kv.map (·.1)).Nodup):oP X (cR .NotIn) (fun x y H Q=>(∃M,Dn X.K M H (f9 k) x)/\Ss X.K kv y H/\Q (.bl (!decide (k∈kv.map (·.1)))) H):=by
 intro pins s σ H x y v u Q I rx ry ⟨⟨M,h1⟩,h2,q⟩;obtain⟨a,xs,rfl,dc⟩:=h2.at nd I ry;obtain⟨b,rfl,_,t2⟩:=rW I h1 rx;refine wpAny_notIn_heap (knd:=kh X.prog X.w) (by show X.A.in1.units+2 < cLine; rw [iB]; omega) t2 dc.no dc.d ?_;rw [dc.has];exact⟨.bl _,H,I.tok _,rfl,q⟩
theorem cg.notInDc(hu:X.A.units+8 < cLine)(nd:(kv.map (·.1)).Nodup)(ha:ar X ρ a (f9 k))(hb:ar X ρ b (oI kv))(hm:fw .NotIn b=false:=by rfl):cg X ρ (.Compare a [.NotIn] [b] pos) (!decide (k∈kv.map (·.1))):=
 fun M0 H0 γ α σ H Q R kk=>(DL (Cn hu nd) iE iE hm).to (ha M0 H0 γ α σ H _ R fun v H1 s1 d1=>hb M0 H0 γ α σ H1 _ (R.next s1) fun u H2 s2 d2=>⟨⟨_,d1.same s2⟩,⟨_,d2⟩,_,rfl,kk H2 (s1.trans s2)⟩)
end
section
variable {α:Type}{lt:α->α->Bool}
def Fz(lt:α->α->Bool)(x:α):List α->List α
 | []=> [x]
 | y::l=>if lt x y then x::y::l else y::Fz lt x l
def o8(lt:α->α->Bool)(l:List α):List α:=l.foldr (Fz lt) []
theorem rq(x:α): ∀l:List α,(Fz lt x l).Perm (x::l)
 | []=>dC _
 | y::l=>by
  unfold Fz
  split
  ·exact dC _
  ·exact((rq x l).cons y).trans (List.Perm.swap _ _ _)
theorem gF: ∀l:List α,(o8 lt l).Perm l
 | []=>dC _
 | x::l=>(rq x _).trans ((gF l).cons x)
theorem DK(o:nM lt)(x:α): ∀l:List α,x∉l->l.Pairwise (fun a b=>lt a b=true)->(Fz lt x l).Pairwise (fun a b=>lt a b=true)
 | [],_,_=>BL _ _
 | y::l,hx,h=>by
  have h':=cD.mp h;unfold Fz
  split
  ·rename_i e;refine cD.mpr ⟨fun z hz=> ?_,h⟩
   rcases aV.mp hz with rfl | hz
   ·exact e
   ·exact o.tr _ _ _ e (h'.1 z hz)
  ·rename_i e;have e:lt x y=false:=by simpa using e
   refine cD.mpr ⟨fun z hz=> ?_,DK o x l (fun z=>hx (.tail _ z)) h'.2⟩
   rcases aV.mp ((rq x l).mem_iff.mp hz)with rfl | hz
   ·exact o.tot _ _ (fun q=>hx (q▸ .head _)) e
   ·exact h'.1 z hz
theorem xN(o:nM lt): ∀l:List α,l.Nodup->(o8 lt l).Pairwise (fun a b=>lt a b=true)
 | [],_=>eY
 | x::l,h=>DK o x _ (fun z=>(eG.mp h).1 ((gF l).mem_iff.mp z)) (xN o l (eG.mp h).2)
theorem tX(o:nM lt): ∀{a b:List α},a.Pairwise (fun a b=>lt a b=true)->b.Pairwise (fun a b=>lt a b=true)->a.Perm b->a=b
 | [],b,_,_,h=>(List.perm_nil.mp h.symm).symm
 | x::a, [],_,_,h=>by cases List.perm_nil.mp h
 | x::a,y::b,ha,hb,h=>by
  have KL:=cD.mp ha;have ki:=cD.mp hb;have e:x=y:=by
   rcases aV.mp (h.mem_iff.mp (.head _))with e | e
   ·exact e
   ·rcases aV.mp (h.symm.mem_iff.mp (.head _))with q | q
    ·exact q.symm
    ·have h1:=ki.1 x e;have h2:=KL.1 y q;rw [o.IX _ _ h1]at h2;cases h2
  subst e;rw [tX o KL.2 ki.2 h.cons_inv]
theorem wQ(o:nM lt){a l:List α}(ha:a.Pairwise (fun a b=>lt a b=true))(h:a.Perm l)(nd:l.Nodup):a=o8 lt l:=tX o ha (xN o l nd) (h.trans (gF l).symm)
end
section
variable {X:Cx}{pins:List (ai×Obj)}{σ:St}{H H':Hp}{s:aj}{h':aY}
theorem Ig{t':Nat}(I:Inv X pins σ H s)(k: ∀b u,s.heap.get? b=some u->h'.get? b=some u)(old: ∀b,b < s.heap.objs.size->H' b=H b)(new: ∀b u,s.heap.objs.size<=b->H' b=some u->fJ X.prog X.w H' h' b u):Inv X pins σ H' {s with heap:=h',toks:=t'}:=by
 have up: ∀b u,H b=some u->H' b=some u:=fun b u e=>by rw [old b (I.fb.lt e)]; exact e
 refine I.un ⟨fun b u q _ _ _=>k b u q,fun b u q _ _ _=>⟨u.slots,k b u q⟩,fun b u q n _=>by rw [old b (az q)]; exact n,fun b u q _=>⟨u,k b u q⟩,fun b xs q=>up b _ q,fun b u xs q=>up b _ q,fun b ps q=>⟨#[],by rw [up b _ q]; simp⟩⟩ fun b u e=> ?_
 by_cases hb:b < s.heap.objs.size
 ·rw [old b hb]at e;exact(I.fb b u e).stay (fun c v _ q=>k c v q) (fun c q=>up c _ q) fun c xs q=>up c _ q
 ·exact new b u (vB hb) e
end
section
variable {X:Cx}{ρ:fB}{e:Expr}{pos p p2 p3:Pos}{kv:o4}{m:Nat}
theorem zR{bs:List ai}(hb:bs.length=kv.length):(bs.zip (kv.map (·.1))).map (·.2)=kv.map (·.1):=nu (by rw [ae]; omega)
theorem cU.mapZ{K:Frag}{M:MP}{H:Hp}{β:Type}{f:β->D}{g:β->V}: ∀{l:List β},(∀x∈l,Dn K M H (f x) (g x))->cU K M H (l.map f) (l.map g)
 | [],_=>rfl
 | x::l,h=>⟨g x,_,rfl,h x (.head _),cU.mapZ fun y hy=>h y (.tail _ hy)⟩
theorem Dp{β:Type}{g:β->V}{g':β->af}: ∀{l:List β},(∀x∈l,RelV (g x) (g' x))->Vals (l.map g) (l.map g')
 | [],_=> .nil
 | x::l,h=> .cons (h x (.head _)) (Dp fun y hy=>h y (.tail _ hy))
theorem we(hh:X.A.handled=none)(hu:X.A.units+8 < cLine)(nd:(kv.map (·.1)).Nodup)(hm: ∀x∈kv,x.1.length=m)(m0:0 < m)(iT:kv.length<=sizeLine):gW X (.builtin "sorted") (fun xs H Q=> ∃q M,xs= [.ref q]/\Dn X.K M H (oI kv) (.ref q)/\ ∀l ys,H l=none->cU X.K M H ((o8 jQ (kv.map (·.1))).map f9) ys->Q (.ref l) (upd H l (.lst ys))):=by
 intro pins s σ H xs us Q I r ⟨q,M,e,dn,k⟩;subst e;obtain⟨u,rfl,rx⟩:=vals1 r;cases rx;obtain⟨a,bs,ea,h1,h2,h3,h4⟩:=dn;cases ea;rw [ae]at h2;obtain⟨o,_,Gh⟩:=h1;obtain⟨⟨no,es,ep,g1,g2,g3,g4⟩,_⟩:=(show fJ X.prog X.w H s.heap q (jZ q o _)from I.fb q _ Gh);obtain⟨zs,a1,a2,a3⟩:=tf (X:=X) h2 g4;have t2: ∀x∈bs.zip (kv.map (·.1)),Dn X.K M H (f9 x.2) (.ref x.1):=fun x hx=>by
  obtain⟨j,hj,rfl⟩:=aT.mp hx;rw [cw,ae]at hj;rw [gD,a8];exact h4.refs (j:=j) (by rw [aA,ak (by omega)]; rfl) (ak _)
 have ND:es.size=kv.length:=by rw [<-ao,a1,ae,a2]
 refine zJ (pr:=(bs.zip (kv.map (·.1))).map fun x=>(au x.1,x.2)) (m:=m) hh hu no ⟨o,g1,g2,g3⟩ (by rw [ND]; exact iT) ?_ (fun x hx=> ?_) (fun x hx=> ?_) m0 ?_ fun h' tk D out c hD so hg hk=> ?_
 ·rw [a1,cH,cH];apply List.ext_getElem (by rw [ae,ae,cw,ae]; omega);intro j Mz Gi;rw [ae]at Mz;obtain⟨t,e⟩:=a3 j (by omega) Mz (by omega);rw [a8,a8,gD];show(yV (kh X.prog X.w) zs[j]).key=_;rw [e];rfl
 ·obtain⟨y,hy,rfl⟩:=aE.mp hx;obtain⟨b,e,_,t⟩:=rW I (t2 y hy) (u:= .ref y.1) rfl;cases e;exact⟨_,rfl,t⟩
 ·obtain⟨y,hy,rfl⟩:=aE.mp hx;have:y.2∈kv.map (·.1):=(wx hy).2;obtain⟨z,hz,e⟩:=aE.mp this;show y.2.length=m;rw [<-e];exact hm z hz
 ·rw [cH];have:((fun x:af×gH=>x.2) ∘ fun x:ai×gH=>(au x.1,x.2))=fun x:ai×gH=>x.2:=rfl;rw [this,zR h2];exact nd
 ·obtain⟨qs,p1,QW,Ri⟩:=so;obtain⟨l,l1,l2⟩:=oE p1;subst l2;have Pw:l.map (·.2)=o8 jQ (kv.map (·.1)):=by
   refine wQ zG ?_ ?_ nd
   ·rw [dq]at Ri ⊢;exact Ri
   ·have:=l1.map (fun x:ai×gH=>x.2);rw [zR h2]at this;exact this
  rw [cH]at QW;have len:l.length<=sizeLine:=by rw [l1.length_eq,cw,ae]; omega
  refine⟨.ref D,_,I.laid (t':=tk) (fun b o e=>hk b o e) hD (o:= .lst (l.map fun x=>V.ref x.1)) ⟨by rw [ae]; exact len,out,c, ?_,hg⟩,rfl,k D _ (I.fb.fresh hD) ?_⟩
  ·rw [<-QW];exact Dp fun x _=>rfl
  ·rw [<-Pw,cH];exact cU.mapZ fun x hx=>t2 x (l1.mem_iff.mp hx)
theorem dF.sortedDc(hh:X.A.handled=none)(hu:X.A.units+8 < cLine)(nd:(kv.map (·.1)).Nodup)(YY: ∀x∈kv,x.1.length=m)(m0:0 < m)(iT:kv.length<=sizeLine)(hg:Gl X "sorted")(hm:X.mg "sorted"=none)(h:ar X ρ e (oI kv))(he:ax [e] X.env= [(false,bV e X.env)]:=by rfl):dF X ρ (.Call (.Name "sorted" p) [e] [] pos) ((o8 jQ (kv.map (·.1))).map f9):=fun M0 H0 γ α σ H Q R k=>
 (jU (we hh hu nd YY m0 iT) hg hm (by decide +kernel) (e_ iE hG he) (by decide) (by decide) he).to (h M0 H0 γ α σ H _ R fun v H1 s1 d1=>by
  have Vc:=d1;obtain⟨a,bs,rfl,_⟩:=d1;refine⟨a,_,rfl,Vc,fun l ys hl dn=>k l ys H1 _ s1 hl (bJ hl) bI ?_⟩;exact(dn.re fun b z=>z.elim .inl fun w=> .inr (by rw [w]; exact hl)).same (bJ hl))
def So(v d:ai):HO:= .ext fun h=>h.get? v=some (zP d)
theorem Hz{o:Expr}{to:TE}(ho:PE X o to)(Bb:kj o "items" X.env (bV o X.env)=bV o X.env:=by rfl)(AY:(p2.endLine==p3.line)=true:=by rfl):
  PE X (.Call (.Attribute o "items" p2) [] [] p3) (fun σ H Q=>to σ H fun x H1=> ∃d o xs,x= .ref d/\H1 d=some (jZ d o xs)/\ ∀v,H1 v=none->Q (.ref v) (upd H1 v (So v d))):=by
 intro pins s σ H Q I h;refine wpAny_Call_method0_late Bb AY (fx (ho pins s σ H _ I h) fun v s1 ⟨x,H1,I1,r1,d,ob,xs,ex,hd,q⟩=> ?_);subst ex;obtain rfl:v=au d:=r1;obtain⟨⟨no,es,ep,g1,g2,g3,g4⟩,_⟩:=(show fJ X.prog X.w H1 s1.heap d (jZ d ob _)from I1.fb d _ hd);refine⟨"dict","dict.items",PySem.F.plainAttrs_dict,PySem.F.slot_dict_items,PySem.F.type_dict_items,⟨ob,g1,g2.1⟩,fun b q=>by cases q; exact⟨ob,g1,g2.2.1⟩,Calls.callWith_builtin rfl (PySem.evalArgs_none ?_)⟩;refine call_meetsIn PySem.F.slot_dict_items ⟨ob,g1,g2.1⟩ PySem.F.entry_dict_items (PySem.F.args_dict_items_1 _) (EZ (es:=es) (ep:=ep) no) ⟨⟨ob,g1,g2,g3⟩, ?_⟩;refine⟨.ref s1.heap.objs.size,_,I1.laid (t':=s1.toks) (fun _ _ q=>ah _ q) (ay _) (o:=So s1.heap.objs.size d) ⟨aw _ rfl,⟨_,aw _ rfl⟩,fun h1 h2 e k=>k _ e⟩,rfl,q _ (I1.fb.fresh (ay _))⟩
def Ng(x:gH×Int):D:= .tup [f9 x.1, .int x.2]
theorem z9(n:Nat)(r:List Int):D.bare (n+1) (r8 r):=fun d hd=>by
 obtain⟨i,_,rfl⟩:=aE.mp hd;cases n <;> exact cB
theorem iD(n:Nat)(rs:gH):D.bare (n+2) (f9 rs):=fun d hd=>by
 obtain⟨r,_,rfl⟩:=aE.mp hd;exact z9 n r
theorem LY(n:Nat)(x:gH×Int):D.bare (n+3+1) (Ng x):=fun d hd=>by
 rcases aV.mp hd with rfl | hd
 ·exact iD (n+1) x.1
 ·rcases aJ.mp hd with rfl
  exact cB
open Classical in
noncomputable def Lh (H:Hp) (l:ai) (ys:List V) (ps:List (ai×ai×Int)):Hp:=fun b=>if b=l then some (.lst ys)else if h: ∃p∈ps,p.1=b then some (.tup [.ref h.choose.2.1, .int h.choose.2.2])else H b
theorem vO(hn: ∀x∈kv,x.2≠ -1)(hh:X.A.handled=none)(hu:X.A.units+8 < cLine)(nd:(kv.map (·.1)).Nodup)(iT:kv.length<=sizeLine):gW X (.builtin "sorted") (fun xs H Q=> ∃v d M,xs= [.ref v]/\H v=some (So v d)/\Dn X.K M H (oI kv) (.ref d)/\ ∀l ys H',H l=none->bQ H H'->H' l=some (.lst ys)->cU X.K M H' ((o8 mB kv).map Ng) ys->Q (.ref l) H'):=by
 intro pins s σ H xs us Q I r ⟨v,d,M,e,hv,dn,k⟩;subst e;obtain⟨u,rfl,rx⟩:=vals1 r;cases rx;obtain⟨a,bs,ea,h1,h2,h3,h4⟩:=dn;cases ea;rw [ae]at h2;obtain⟨Y4,_⟩:=(show fJ X.prog X.w H s.heap v (So v d)from I.fb v _ hv);obtain⟨o,_,Gh⟩:=h1;obtain⟨⟨no,es,ep,g1,g2,g3,g4⟩,_⟩:=(show fJ X.prog X.w H s.heap d (jZ d o _)from I.fb d _ Gh);obtain⟨zs,a1,a2,a3⟩:=tf (X:=X) h2 g4;have ND:es.size=kv.length:=by rw [<-ao,a1,ae,a2]
 have ent: ∀j (hj:j < es.size), ∃t,es[j].key= .ref (bs[j]'(by omega))/\es[j].val= .int (kv[j]'(by omega)).2 t:=fun j hj=>by
  obtain⟨t,e⟩:=a3 j (by omega) (by omega) (by omega);have q:es[j]=yV (kh X.prog X.w) (zs[j]'(by omega)):=by
   have:es.toList[j]'(by rw [ao]; exact hj)=(zs.map (yV (kh X.prog X.w)))[j]'(by rw [ae]; omega):=by simp only [a1]
   rw [a8]at this;simpa using this
  rw [q,e];exact⟨t,rfl,ux (hn _ (aX (by omega))) t⟩
 have XM: ∀j (hj:j < kv.length),Dn X.K M H (f9 kv[j].1) (.ref (bs[j]'(by omega))):=fun j hj=>h4.refs (j:=j) (by rw [aA,ak hj]; rfl) (ak _);have Xb:kv.Nodup:=by
  refine List.Pairwise.imp ?_ (dq.mp nd);intro a b h z;exact h (by rw [z])
 refine xE (ks:=kv) hh hu Y4 ⟨o,g1,g2,g3⟩ (by rw [ND]; exact iT) ND.symm (fun j hj=> ?_) Xb fun h' D cs out c hD Pn p8 hc so hg hk=> ?_
 ·obtain⟨t,e1,e2⟩:=ent j hj;obtain⟨b,e,_,t2⟩:=rW I (XM j (by omega)) (u:= .ref (bs[j]'(by omega))) rfl;cases e;exact⟨_,t,e1,e2,t2⟩
 ·obtain⟨qs,p1,QW,Ri⟩:=so;have ez:(cs.map au).zip kv=(cs.zip kv).map fun x=>(au x.1,x.2):=by
   rw [List.zip_map_left];rfl
  rw [ez]at p1;obtain⟨l,l1,l2⟩:=oE p1;subst l2;have e2:(cs.zip kv).map (·.2)=kv:=nu (by omega);have Pw:l.map (·.2)=o8 mB kv:=by
   refine wQ Qy ?_ ?_ Xb
   ·rw [dq]at Ri ⊢;exact Ri
   ·have:=l1.map (fun x:ai×(gH×Int)=>x.2);rw [e2]at this;exact this
  rw [cH]at QW;have len:l.length=kv.length:=by rw [l1.length_eq,cw]; omega
  let ps:List (ai×ai×Int):=cs.zip (bs.zip (kv.map (·.2)))
  have KA: ∀p∈ps, ∃j, ∃hj:j < kv.length,p=(cs[j]'(by omega),bs[j]'(by omega),kv[j].2):=fun p hp=>by
   obtain⟨j,hj,rfl⟩:=aT.mp hp;have CY:j < kv.length:=by simp only [ps,cw,ae]at hj; omega
   refine⟨j,CY, ?_⟩;simp [ps]
  have pin: ∀j (hj:j < kv.length),(cs[j]'(by omega),bs[j]'(by omega),kv[j].2)∈ps:=fun j hj=>by
   have hl:j < ps.length:=by simp only [ps,cw,ae]; omega
   have:ps[j]=(cs[j]'(by omega),bs[j]'(by omega),kv[j].2):=by simp [ps]
   rw [<-this];exact aX hl
  have A6: ∀j (hj:j < kv.length), ∃t,h'.get? (cs[j]'(by omega))=some {cls:= .type "tuple",data:= .seq #[.ref (bs[j]'(by omega)), .int kv[j].2 t]}:=fun j hj=>by
   obtain⟨Gi,e⟩:=hc j (cs[j]'(by omega)) (ak _);obtain⟨t,q1,q2⟩:=ent j Gi;refine⟨t, ?_⟩;rw [e];unfold gn;rw [q1,q2]
  have Z5: ∀j (hj:j < kv.length),cs[j]'(by omega)≠D:=fun j hj z=>by
   obtain⟨t,e⟩:=A6 j hj;rw [z,hg]at e;exact absurd (show cK "list"=cK "tuple" from congrArg Obj.cls (aF e)) (by decide)
  let ys:List V:=l.map fun x=>V.ref x.1
  have PR: ∀j (hj:j < kv.length),Lh H D ys ps (cs[j]'(by omega))=some (.tup [.ref (bs[j]'(by omega)), .int kv[j].2]):=fun j hj=>by
   have hx: ∃p∈ps,p.1=cs[j]'(by omega):=⟨_,pin j hj,rfl⟩;unfold Lh;rw [if_neg (Z5 j hj),dif_pos hx];obtain⟨m1,m2⟩:=hx.choose_spec;obtain⟨i,hi,ei⟩:=KA _ m1;rw [ei]at m2 ⊢;obtain⟨t,q1⟩:=A6 j hj;obtain⟨t',q2⟩:=A6 i hi;have m2:cs[i]'(by omega)=cs[j]'(by omega):=m2;rw [m2,q1]at q2;simp only [Option.some.injEq,Obj.mk.injEq,Data.seq.injEq,Array.mk.injEq,List.cons.injEq,Value.ref.injEq,Value.int.injEq,and_true,true_and]at q2;obtain⟨z1,z2,_⟩:=q2;show some (HO.tup [.ref (bs[i]'(by omega)), .int kv[i].2])=_;rw [z1,z2]
  have old: ∀b,b < s.heap.objs.size->Lh H D ys ps b=H b:=fun b hb=>by
   unfold Lh;rw [if_neg (aN (bB hb hD)),dif_neg];rintro⟨p,hp,rfl⟩;obtain⟨j,hj,rfl⟩:=KA p hp;have:=p8 (cs[j]'(by omega)) (aX _);exact absurd hb (Nat.not_lt.mpr this)
  have I':Inv X pins σ (Lh H D ys ps) {s with heap:=h',toks:=s.toks}:=by
   refine Ig I hk old fun b u hb e=> ?_
   by_cases hbD:b=D
   ·subst hbD;have e:some (HO.lst ys)=some u:=by rw [<-e]; unfold Lh; rw [if_pos rfl]
    cases e;refine⟨by show(l.map _).length<=_; rw [ae,len]; exact iT,out,c, ?_,hg⟩;rw [<-QW];exact Dp fun x _=>rfl
   ·by_cases hx: ∃p∈ps,p.1=b
    ·obtain⟨p,hp,rfl⟩:=hx;obtain⟨j,hj,rfl⟩:=KA p hp;rw [PR j hj]at e;cases e;obtain⟨t,q⟩:=A6 j hj;exact⟨kr (by show 2<=_; omega), [.ref (bs[j]'(by omega)), .int kv[j].2 t], .cons rfl (.cons ⟨t,rfl⟩ .nil),_,q,rfl,_,rfl⟩
    ·have:H b=some u:=by
      unfold Lh at e;rw [if_neg hbD,dif_neg hx]at e;exact e
     exact absurd (I.fb.lt this) (Nat.not_lt.mpr hb)
  have sm:bQ H (Lh H D ys ps):=fun b o e=>by rw [old b (I.fb.lt e)]; exact e
  refine⟨.ref D,_,I',rfl,k D ys _ (I.fb.fresh hD) sm (by unfold Lh; rw [if_pos rfl]) ?_⟩;rw [<-Pw,cH];refine cU.mapZ fun x hx=> ?_;have SS:=l1.mem_iff.mp hx;obtain⟨j,hj,rfl⟩:=aT.mp SS;rw [cw]at hj;have CY:j < kv.length:=by omega
  rw [gD];refine⟨_,_,rfl, .inl (.inl (PR j CY)), ?_⟩;exact⟨_,_,rfl,(XM j CY).same sm,_,_,rfl,rfl,rfl⟩
theorem dF.sortedIt(hn: ∀x∈kv,x.2≠ -1)(hh:X.A.handled=none)(hu:X.A.units+8 < cLine)(nd:(kv.map (·.1)).Nodup)(iT:kv.length<=sizeLine)(hg:Gl X "sorted")(hm:X.mg "sorted"=none)(h:ar X ρ e (oI kv))(Bb:kj e "items" X.env (bV e X.env)=bV e X.env:=by rfl)(AY:(p2.endLine==p3.line)=true:=by rfl)
  (he:ax [.Call (.Attribute e "items" p2) [] [] p3] X.env= [(false,bV (.Call (.Attribute e "items" p2) [] [] p3) X.env)]:=by rfl):dF X ρ (.Call (.Name "sorted" p) [.Call (.Attribute e "items" p2) [] [] p3] [] pos) ((o8 mB kv).map Ng):=fun M0 H0 γ α σ H Q R k=>
 (jU (vO hn hh hu nd iT) hg hm (by decide +kernel) (e_ (Hz iE Bb AY) hG he) (by decide) (by decide) he).to (h M0 H0 γ α σ H _ R fun v H1 s1 d1=>by
  have Vc:=d1;obtain⟨a,bs,rfl,⟨ob,_,hd⟩,_⟩:=d1;refine⟨a,ob,_,rfl,hd,fun v hv=> ?_⟩;refine⟨v,a,_,rfl,bI,Vc.same (bJ hv),fun l ys H2 hl sm zb dn=>k l ys _ H2 (s1.trans (bJ hv)) hl sm zb (cU.map1 (fun d hd v=> ?_) dn)⟩;obtain⟨x,_,rfl⟩:=aE.mp hd;exact Dn.bare 9 (LY 5 x))
end
section
variable {Ky:Type} [DecidableEq Ky]
def Oz{prog:aH}{w:aW}(κ:nF prog w Ky)(l:ai)(n:Nat)(val:Nat->Ky)(T:Nat->ai):HO:= .ext fun h=> ∃o es ep t, ∃pr:List (af×Ky),h.get? l=some o/\PF (!sg w) o es ep t/\pr.map (·.1)=es.toList.map (·.2)/\(pr.map (·.2)).Nodup/\
 (∀x∈pr, ∃j,j < n/\x.1=au (T j)/\x.2=val j)/\ ∀j,j < n-> ∃x∈pr,x.2=val j
structure KD(X:Cx)(κ:nF X.prog X.w Ky)(enc:Ky->D):Prop where
 ref: ∀{M:MP} {H:Hp} {k:Ky} {v:V},Dn X.K M H (enc k) v-> ∃b,v= .ref b
 at_: ∀{pins:List (ai×Obj)} {σ:St} {H:Hp} {s:aj} {M:MP} {k:Ky} {b:ai},Inv X pins σ H s->Dn X.K M H (enc k) (.ref b)->κ.is s.heap k b
variable {X:Cx}{κ:nF X.prog X.w Ky}{enc:Ky->D}{lt:Ky->Ky->Bool}{ok:Ky->Prop}{ρ:fB}{e:Expr}{pos p p2 p3 p4 p5:Pos} [Inhabited Ky]
theorem KD.refs(k:KD X κ enc){M:MP}{H:Hp}: ∀{ks:List Ky} {xs:List V},cU X.K M H (ks.map enc) xs-> ∃T:Nat->ai, ∀j q,ks[j]? =some q->xs[j]? =some (.ref (T j))/\Dn X.K M H (enc q) (.ref (T j))
 | [],_,_=>⟨fun _=>0,fun j q h=>by simp at h⟩
 | q::ks,_,⟨v,r,rfl,h1,h2⟩=>by
  obtain⟨b,rfl⟩:=k.ref h1;obtain⟨T,hT⟩:=k.refs h2;refine⟨fun j=>match j with | 0=>b | j+1=>T j,fun j z hz=> ?_⟩;cases j with
  | zero=>cases hz; exact⟨rfl,h1⟩
  | succ j=>exact hT j z hz
theorem Et(kd:KD X κ enc)(hc:X.calm=true)(hu: ∀B:bA,B.units<=X.A.units+8->κ.room B):gW X (.type "set") (fun xs H Q=> ∃(q:ai) (M:MP) (ks:List Ky),xs= [.ref q]/\qF X.K M H (.lst (ks.map enc)) (.ref q)/\ks.length<=120/\
  ∀l T,H l=none->(∀j k,ks[j]? =some k->Dn X.K M H (enc k) (.ref (T j)))->Q (.ref l) (upd H l (Oz κ l ks.length (fun j=>ks.getD j default) T))):=by
 intro pins s σ H xs us Q I r ⟨q,M,ks,e,hq,hl,k⟩;subst e;obtain⟨u,rfl,rx⟩:=vals1 r;cases rx;obtain⟨q',ys,eq,sq,dn⟩:=hq;cases eq;obtain⟨T,hT⟩:=kd.refs dn;obtain⟨its,r',pl,hz⟩:=I.list sq;have hlen:=r'.length;have My:=dn.len;rw [ae]at My;have get: ∀j,j < ks.length->ks[j]? =some (ks.getD j default):=fun j h=>by rw [aS,ak h]; rfl
 have tk: ∀j,j < ks.length->κ.is s.heap (ks.getD j default) (T j):=fun j h=>kd.at_ I (hT j _ (get j h)).2;refine Ih (κ:=κ) (n:=ks.length) (val:=fun j=>ks.getD j default) (T:=T) (I.ok.hd hc) hu pl.isList (by rw [aD]; omega) hl (fun i hi=> ?_) tk fun h' ZW hS hk=> ?_
 ·obtain⟨h1,_⟩:=hT i _ (get i hi);obtain⟨u,SR,ru⟩:=r'.get h1;rw [show u=au (T i)from ru]at SR;simpa using SR
 ·have kt:sY s.heap h':=fun c o _ z=>hk c o (az z) z;obtain⟨o,es,ep,t,S,q1,q2,q3⟩:=hS;obtain⟨kk,k1,k2,k3⟩:=S.nd;have le:(es.toList.map (·.2)).length=kk.length:=by rw [ae,ao,k1]
  have key: ∀x∈(es.toList.map (·.2)).zip kk, ∃j,j < ks.length/\x.1=au (T j)/\x.2=ks.getD j default:=fun x hx=>by
   obtain⟨i,hi,e1⟩:=eE hx;have KH:i < kk.length:=by rw [cw]at hi; omega
   obtain⟨b,e2,e3⟩:=k3 i _ (ak KH);obtain⟨j,hj,e4⟩:=q2 _ (by simpa using pz e2);have eb:b=T j:=by injection e4 with _ z; injection z
   subst eb;have ek:kk[i]=ks.getD j default:=κ.inj e3 (κ.keep (tk j hj) kt);rw [gD]at e1;have ev:(es.toList.map (·.2))[i]'(by omega)=au (T j):=by
    have:es.toList[i]? =some (κ.hash kk[i],au (T j)):=by rw [bf]; exact e2
    rw [a8,(aB.mp this).2]
   exact⟨j,hj,by rw [<-e1]; exact ev,by rw [<-e1]; exact ek⟩
  refine⟨.ref s.heap.objs.size,_,I.laid (t':=ZW) (fun b o e=>hk b o (az e) e) (ay _) (o:=Oz κ s.heap.objs.size ks.length (fun j=>ks.getD j default) T) ⟨⟨o,es,ep,t,(es.toList.map (·.2)).zip kk,S.get,S.pf,List.map_fst_zip (oj le), ?_,key,fun j hj=> ?_⟩,⟨o,S.get⟩,fun h1 h2 ⟨o,es,ep,t,pr,x,r⟩ kk=>⟨o,es,ep,t,pr,kk o x,r⟩⟩,rfl,k _ T I.fresh (fun j p h=>(hT j p h).2)⟩
  ·rw [nu (oj le.symm)]; exact k2
  ·obtain⟨j',CY,he,hv⟩:=q3 j hj;obtain⟨i,hi,e1⟩:=eE he;have KH:i < kk.length:=by rw [ao]at hi; omega
   obtain⟨b,e2,e3⟩:=k3 i _ (ak KH);have e4:es.toList[i]? =some (κ.hash (ks.getD j' default),au (T j')):=by rw [ak hi,e1]
   rw [bf,e2]at e4;have eb:b=T j':=by injection e4 with z; injection z with _ z; injection z
   subst eb;have ek:kk[i]=ks.getD j' default:=κ.inj e3 (κ.keep (tk j' CY) kt);refine⟨_,aX (l:=(es.toList.map (·.2)).zip kk) (n:=i) (by rw [cw]; omega), ?_⟩;rw [gD];exact ek.trans hv
theorem xH(kd:KD X κ enc)(so:uX X.prog X.w κ lt ok (X.A.units+8))(hc:X.calm=true):gW X (.builtin "sorted") (fun xs H Q=> ∃(q:ai) (n:Nat) (val:Nat->Ky) (T:Nat->ai) (M:MP),xs= [.ref q]/\H q=some (Oz κ q n val T)/\(∀j,j < n->Dn X.K M H (enc (val j)) (.ref (T j))/\ok (val j))/\
  ∀(l:ai) (js:List Nat),H l=none->(∀j∈js,j < n)->(∀j,j < n-> ∃j'∈js,val j'=val j)->js.Pairwise (fun a b=>lt (val a) (val b)=true)->Q (.ref l) (upd H l (.lst (js.map fun j=>V.ref (T j))))):=by
 intro pins s σ H xs us Q I r ⟨q,n,val,T,M,e,hq,hT,k⟩;subst e;obtain⟨u,rfl,rx⟩:=vals1 r;cases rx;obtain⟨⟨o,es,ep,t,pr,hg,S,Pf,nd,q2,q3⟩,_⟩:=I.fb q _ hq;refine zY so (I.ok.hd hc) S hg pr Pf (fun x hx=> ?_) nd fun h' tk D out c hD Zh mK hk=> ?_
 ·obtain⟨j,hj,e1,e2⟩:=q2 x hx;exact⟨_,e1,by rw [e2]; exact kd.at_ I (hT j hj).1,by rw [e2]; exact(hT j hj).2⟩
 ·obtain⟨qq,hp,Kc,QX⟩:=Zh;have hlen:qq.length<=120:=by
   rw [hp.length_eq];have this:pr.length=es.size:=by simpa using congrArg eS Pf
   rw [this]; exact S.iT
  obtain⟨js,j1,j2⟩: ∃js:List Nat,(∀j∈js,j < n)/\qq=js.map (fun j=>(au (T j),val j)):=by
   have mf: ∀x∈qq, ∃j,j < n/\x=(au (T j),val j):=fun x hx=>by
    obtain⟨j,hj,e1,e2⟩:=q2 x (hp.mem_iff.mp hx);exact⟨j,hj,Prod.ext e1 e2⟩
   clear hp Kc QX hlen
   induction qq with
   | nil=>exact⟨[],(fun j hj=>by cases hj),rfl⟩
   | cons x qq ih=>
    obtain⟨j,hj,rfl⟩:=mf x (.head _);obtain⟨js,a1,a2⟩:=ih fun x hx=>mf x (.tail _ hx);refine⟨j::js,fun i hi=> ?_,by rw [a9, <-a2]⟩
    rcases aV.mp hi with rfl | hi
    ·exact hj
    ·exact a1 i hi
  subst j2;rw [ae]at hlen;rw [dq]at QX;rw [cH]at Kc;subst Kc;refine⟨.ref D,_,I.laid (t':=tk) hk hD (o:= .lst (js.map fun j=>V.ref (T j))) ⟨by rw [ae]; exact kr (by omega),_,c,Dp fun _ _=>rfl,mK⟩,rfl,k D js (I.fb.fresh hD) j1 (fun j hj=> ?_) QX⟩;obtain⟨x,hx,e1⟩:=q3 j hj;obtain⟨j',CY,rfl⟩:=aE.mp (hp.mem_iff.mpr hx);exact⟨j',CY,e1⟩
theorem X7{lt:Ky->Ky->Bool}(o:nM lt){a b:List Ky}(ha:a.Pairwise (fun a b=>lt a b=true))(hb:b.Pairwise (fun a b=>lt a b=true))(h: ∀x,x∈a↔x∈b):a=b:=by
 have nd: ∀{l:List Ky},l.Pairwise (fun a b=>lt a b=true)->l.Nodup:=fun h=>h.imp fun{a b} q e=>by
  subst e;rw [o.IX _ _ q]at q;cases q
 exact tX o ha hb ((List.perm_ext_iff_of_nodup (nd ha) (nd hb)).mpr h)
theorem dF.sortedSetG{ks rs:List Ky}(kd:KD X κ enc)(so:uX X.prog X.w κ lt ok (X.A.units+8))(o:nM lt)(hc:X.calm=true)(hu: ∀B:bA,B.units<=X.A.units+8->κ.room B)(fb: ∀k∈ks,ok k)(hm: ∀x,x∈rs↔x∈ks)(pw:rs.Pairwise (fun a b=>lt a b=true))(hb: ∀k,D.bare 9 (enc k))(mK:Gl X "sorted")(qM:X.mg "sorted"=none)(O3:Gl X "set")(OZ:X.mg "set"=none)(h:kR X ρ e (.lst (ks.map enc)))(hl:ks.length<=120)
  (he:ax [e] X.env= [(false,bV e X.env)]:=by rfl)(si:ax [.Call (.Name "set" p4) [e] [] p5] X.env= [(false,bV (.Call (.Name "set" p4) [e] [] p5) X.env)]:=by rfl):
  dF X ρ (.Call (.Name "sorted" p2) [.Call (.Name "set" p4) [e] [] p5] [] p3) (rs.map enc):=fun M0 H0 γ α σ H Q R k=>
 (jU (xH kd so hc) mK qM (by decide +kernel) (e_ (jr (Et kd hc hu) O3 OZ (by decide +kernel) (e_ iE hG he) (by decide) (by decide) he) hG si) (by decide) (by decide) si).to
  (h M0 H0 γ α σ H _ R fun v H1 s1 d1=>by
   obtain⟨q,xs,e1,sq,dn⟩:=id d1;subst e1;have get: ∀j,j < ks.length->ks[j]? =some (ks.getD j default):=fun j h=>by rw [aS,ak h]; rfl
   refine⟨q,_,ks,rfl,d1,hl,fun l T Bw hT=>⟨l,_,_,T,_,rfl,bI,fun j hj=>⟨(Dn.bare (M':=PB) 9 (hb _) (hT j _ (get j hj))).same (bJ Bw),fb _ (aR (get j hj))⟩,fun l2 js zb rZ Vd QX=> ?_⟩⟩;have eq:js.map (fun j=>ks.getD j default)=rs:=by
    refine X7 o (by rw [dq]; exact QX) pw fun x=> ?_;rw [hm];constructor
    ·intro hx;obtain⟨j,hj,rfl⟩:=aE.mp hx;exact aR (get j (rZ j hj))
    ·intro hx;obtain⟨j,hj,e1⟩:=eE hx;obtain⟨j',CY,e2⟩:=Vd j hj;refine aE.mpr ⟨j',CY, ?_⟩;rw [e2,aS,ak hj];exact e1
   refine k l2 _ _ _ (s1.trans (bJ Bw)) zb (bJ zb) bI ?_;rw [<-eq,cH];exact cU.mapZ fun j hj=>Dn.bare 9 (hb _) (((hT j _ (get j (rZ j hj))).same (bJ Bw)).same (bJ zb)))
end
instance:Inhabited gH:=⟨[]⟩
section
variable {X:Cx}{ρ:fB}{e:Expr}{pos p p2 p3 p4 p5:Pos}
theorem X3:KD X (Qx X.prog X.w) r8:=⟨fun⟨a,_,e,_⟩=>⟨a,e⟩,fun I h=>let⟨b,e,t⟩:=Nb I h (u:= .ref _) rfl; by cases e; exact t⟩
theorem X0:KD X (QP X.prog X.w) f9:=⟨fun⟨a,_,e,_⟩=>⟨a,e⟩,fun I h=>let⟨b,e,_,t⟩:=rW I h (u:= .ref _) rfl; by cases e; exact t⟩
theorem dF.sortedSet{ps:List (Int×Int)}(hc:X.calm=true)(hu:X.A.units+16 < cLine)(mK:Gl X "sorted")(qM:X.mg "sorted"=none)(O3:Gl X "set")(OZ:X.mg "set"=none)(h:kR X ρ e (.lst (ps.map pairD)))(hl:ps.length<=20)
  (he:ax [e] X.env= [(false,bV e X.env)]:=by rfl)(si:ax [.Call (.Name "set" p4) [e] [] p5] X.env= [(false,bV (.Call (.Name "set" p4) [e] [] p5) X.env)]:=by rfl):
  dF X ρ (.Call (.Name "sorted" p2) [.Call (.Name "set" p4) [e] [] p5] [] p3) ((iu ps).map pairD):=by
 have ee: ∀l:List (Int×Int),l.map pairD=(l.map N3).map r8:=fun l=>by rw [cH]; rfl
 rw [ee]at h ⊢;refine dF.sortedSetG (lt:=rk) (ok:=fun k=>k.length=2) (ks:=ps.map N3) X3 (L5 _) zm.lex hc (fun B hB=>show B.units < cLine by omega) (fun k hk=> ?_) (fun x=> ?_) ?_ (z9 8) mK qM O3 OZ h (by rw [ae]; omega) he si
 ·obtain⟨p,_,rfl⟩:=aE.mp hk;rfl
 ·rw [aE,aE];constructor
  ·rintro⟨p,hp,e⟩; exact⟨p,(nZ p ps).mp hp,e⟩
  ·rintro⟨p,hp,e⟩; exact⟨p,(nZ p ps).mpr hp,e⟩
 ·rw [dq];exact Dj ps
theorem ar.sortedSetT{ps:List (Int×Int)}(hc:X.calm=true)(hu:X.A.units+16 < cLine)(rC:Gl X "tuple")(Eg:X.mg "tuple"=none)(mK:Gl X "sorted")(qM:X.mg "sorted"=none)(O3:Gl X "set")(OZ:X.mg "set"=none)(h:kR X ρ e (.lst (ps.map pairD)))(hl:ps.length<=20)
  (he:ax [e] X.env= [(false,bV e X.env)]:=by rfl)(si:ax [.Call (.Name "set" p4) [e] [] p5] X.env= [(false,bV (.Call (.Name "set" p4) [e] [] p5) X.env)]:=by rfl)
  (VE:ax [.Call (.Name "sorted" p2) [.Call (.Name "set" p4) [e] [] p5] [] p3] X.env= [(false,bV (.Call (.Name "sorted" p2) [.Call (.Name "set" p4) [e] [] p5] [] p3) X.env)]:=by rfl):
  ar X ρ (.Call (.Name "tuple" p) [.Call (.Name "sorted" p2) [.Call (.Name "set" p4) [e] [] p5] [] p3] [] pos) (.tup ((iu ps).map pairD)):=ar.tupleL rC Eg (ar.r (dF.toD (dF.sortedSet hc hu mK qM O3 OZ h hl he si))) VE
theorem dF.sortedSetR{ks:List gH}{m:Nat}(hc:X.calm=true)(hu:X.A.units+16 < cLine)(fb: ∀k∈ks,k.length=m)(m0:0 < m)(pw:ks.Pairwise (fun a b=>jQ a b=true))(mK:Gl X "sorted")(qM:X.mg "sorted"=none)(O3:Gl X "set")(OZ:X.mg "set"=none)(h:kR X ρ e (.lst (ks.map f9)))(hl:ks.length<=120)
  (he:ax [e] X.env= [(false,bV e X.env)]:=by rfl)(si:ax [.Call (.Name "set" p4) [e] [] p5] X.env= [(false,bV (.Call (.Name "set" p4) [e] [] p5) X.env)]:=by rfl):
  dF X ρ (.Call (.Name "sorted" p2) [.Call (.Name "set" p4) [e] [] p5] [] p3) (ks.map f9):=
 dF.sortedSetG (lt:=jQ) (ok:=fun k=>k.length=m) X0 (Li m0 (by omega)) zG hc (fun B hB=>show B.units+2 < cLine by omega) fb (fun x=>Iff.rfl) pw (iD 7) mK qM O3 OZ h hl he si
end
end Z
namespace K
open PySem L2 Z
def FN:List Str:= ["stack_count","most_crates","crane_strength","banned_pairs"]
abbrev dQ:=List (Int×Int)
def tO(f:c5)(qs:dQ):List D:= [.int f.st, .int f.ht, .int f.lf, .tup (qs.map pD)]
def g9(C:ai)(f:c5)(qs:dQ):D:= .ins C FN (tO f qs)
structure Od(K:Frag)(C:ai):Prop where
 cl:BN K C
 n1:jn K C "stack_count"
 n2:jn K C "most_crates"
 n3:jn K C "crane_strength"
 n4:jn K C "banned_pairs"
structure qm(f:c5):Prop where
 st:2<=f.st/\f.st<=4
 ht:1<=f.ht/\f.ht<=6
 lf:1<=f.lf/\f.lf<=3
 iT:f.fK.length<=20
 ok:f.fK.all qH=true
section
variable {P:aH}{w:aW}{K:Frag}{mg:Str->Option af}{base:aY}{CX:k_}{C:ai}
variable (P w K mg base CX)in
abbrev Ed(C:ai):Prop:=
 PH P w K mg base CX 1 C "stacks" (fun i:c5×dQ=> [g9 C i.1 i.2]) (fun _=>True) (fun i=> .ok (.int i.1.st))
variable (P w K mg base CX)in
abbrev Dw(C:ai):Prop:=
 PH P w K mg base CX 1 C "height" (fun i:c5×dQ=> [g9 C i.1 i.2]) (fun _=>True) (fun i=> .ok (.int i.1.ht))
variable (P w K mg base CX)in
abbrev MY(C:ai):Prop:=
 PH P w K mg base CX 1 C "lift" (fun i:c5×dQ=> [g9 C i.1 i.2]) (fun _=>True) (fun i=> .ok (.int i.1.lf))
variable (P w K mg base CX)in
abbrev MT(C:ai):Prop:=
 PH P w K mg base CX 1 C "bans" (fun i:c5×dQ=> [g9 C i.1 i.2]) (fun _=>True) (fun i=> .ok (.lst (i.2.map pD)))
theorem T7:bM ["self"] ["self"] (aL (Gb 1)):=l8
theorem Tg:bM ["self"] ["self"] (aL (Gb 2)):=l8
theorem TV:bM ["self"] ["self"] (aL (Gb 3)):=l8
theorem T8:bM ["self"] ["self"] (aL (Gb 4)):=l8
theorem TY(f:c5)(qs:dQ):mE FN (tO f qs) "stack_count"=some (.int f.st):=rfl
theorem S7(f:c5)(qs:dQ):mE FN (tO f qs) "most_crates"=some (.int f.ht):=by
 unfold FN tO;rw [mE,if_neg (by decide +kernel),mE,if_pos (by decide +kernel)]
theorem TU(f:c5)(qs:dQ):mE FN (tO f qs) "crane_strength"=some (.int f.lf):=by
 unfold FN tO;rw [mE,if_neg (by decide +kernel),mE,if_neg (by decide +kernel),mE,if_pos (by decide +kernel)]
theorem Tp(f:c5)(qs:dQ):mE FN (tO f qs) "banned_pairs"=some (.tup (qs.map pD)):=by
 unfold FN tO;rw [mE,if_neg (by decide +kernel),mE,if_neg (by decide +kernel),mE,if_neg (by decide +kernel),mE,if_pos (by decide +kernel)]
theorem E8{f:ai}{fd:bb}(T:Od K C)(F:ji K "stacks" "Floor.stacks" (Gb 1) f fd)(hm:Meth K C "stacks" f)(hb:Binds K fd ["self"] []):Ed P w K mg base CX C:=
 xI F T7 hm hb (fun i=>rfl) fun dX A outer s H E i M0 hp hr=>⟨_,rfl,WS.one (W1.ret (ar.fld T.cl T.n1 (nm 0 rfl rfl) (TY i.1 i.2)) rfl)⟩
theorem Fq{f:ai}{fd:bb}(T:Od K C)(F:ji K "height" "Floor.height" (Gb 2) f fd)(hm:Meth K C "height" f)(hb:Binds K fd ["self"] []):Dw P w K mg base CX C:=
 xI F Tg hm hb (fun i=>rfl) fun dX A outer s H E i M0 hp hr=>⟨_,rfl,WS.one (W1.ret (ar.fld T.cl T.n2 (nm 0 rfl rfl) (S7 i.1 i.2)) rfl)⟩
theorem KZ{f:ai}{fd:bb}(T:Od K C)(F:ji K "lift" "Floor.lift" (Gb 3) f fd)(hm:Meth K C "lift" f)(hb:Binds K fd ["self"] []):MY P w K mg base CX C:=
 xI F TV hm hb (fun i=>rfl) fun dX A outer s H E i M0 hp hr=>⟨_,rfl,WS.one (W1.ret (ar.fld T.cl T.n3 (nm 0 rfl rfl) (TU i.1 i.2)) rfl)⟩
theorem K5{f:ai}{fd:bb}(B:Bm mg)(T:Od K C)(F:ji K "bans" "Floor.bans" (Gb 4) f fd)(hm:Meth K C "bans" f)(hb:Binds K fd ["self"] []):MT P w K mg base CX C:=
 xI F T8 hm hb (fun i=>rfl) fun dX A outer s H E i M0 hp hr=>⟨_,rfl,WS.one (W1.ret (dF.toD (dF.listT rfl B.list (ar.fld T.cl T.n4 (nm 0 rfl rfl) (Tp i.1 i.2)))) rfl)⟩
theorem OA:bM ["self","stacks","height","lift","bans"] ["self","stacks","height","lift","bans"] (aL zv):=l8
variable (P w K mg base CX)in
abbrev DN(C:ai):Prop:=
 TH P w K mg base CX 5 "Floor" C FN (fun f:c5=> [.int f.st, .int f.ht, .int f.lf, .lst (f.fK.map pD)]) qm (fun f ds=> ∃qs:dQ,ds=tO f qs/\qs=iu f.fK)
theorem IU{K:Frag}{M0:MP}{H H1 H':Hp}{γ:List (D×V)}{α:Nat->ai}{ρ:fB}{σ:St}(r:Rep K M0 H γ α ρ σ H')(hM: ∀a,M0 a->H1 a≠none)(s:bQ H1 H)(O5: ∀(i:Nat) (ds:List D),ρ[i]? ≠some (.mu ds)):Rep K M0 H1 γ α ρ σ H':=
 ⟨s.trans r.same,hM,r.inj,r.im,fun i ds e=>absurd e (O5 i ds),r.gh,r.len⟩
theorem P7(a b c d:V):gG "banned_pairs" d (gG "crane_strength" c (gG "most_crates" b (gG "stack_count" a [])))=([("stack_count",a),("most_crates",b),("crane_strength",c),("banned_pairs",d)]:List (Str×V)):=by
 have n1:("stack_count":Str)≠"most_crates":=by decide +kernel
 have n2:("stack_count":Str)≠"crane_strength":=by decide +kernel
 have n3:("most_crates":Str)≠"crane_strength":=by decide +kernel
 have n4:("stack_count":Str)≠"banned_pairs":=by decide +kernel
 have n5:("most_crates":Str)≠"banned_pairs":=by decide +kernel
 have n6:("crane_strength":Str)≠"banned_pairs":=by decide +kernel
 simp only [gG,n1,n2,n3,n4,n5,n6,if_false]
theorem Ec(n:Nat)(ps:dQ): ∀d∈ps.map pD,D.noI (n+1) d:=fun d hd=>by
 obtain⟨p,_,rfl⟩:=aE.mp hd;intro e he;have:e= .int p.1\/e= .int p.2:=by simpa [pD]using he
 rcases this with rfl | rfl <;> (cases n <;> exact cB)
theorem LI{f:ai}{fd:bb}(nx:NX CX)(B:Bm mg)(T:Od K C)(G1:oB P w K mg base CX)(G2:uf P w K mg base CX)(F:ji K "__init__" "Floor.__init__" zv f fd)(M:Mk K C f)(hm:mg "Floor"=some (.ref C))(hb:Binds K fd ["self","stacks","height","lift","bans"] []):DN P w K mg base CX C:=by
 refine⟨f,fd,_, ?_,M,hm,hb⟩;obtain⟨oc,od,kV,doc,pm,an,dX,ct,vK,rfl,lk,kc⟩:=F.ex;refine zI lk kc OA (fun vs H Q E ⟨i,M0,x,dx,us,e,_,_,h,_⟩=>by subst e; rw [aK,h.len]; rfl) fun A outer s H vs Q E hr BC=> ?_;obtain⟨fl,M0,x,dx,us,rfl,hx,hM,hd,hp,kk⟩:=BC;refine⟨mi _ (bo zv),(gr (X:=(pb CX P w K mg base ["self","stacks","height","lift","bans"] "Floor.__init__" (aL zv) f dX A outer s H E).nox)).nox, ?_⟩;obtain⟨⟨s2,s4⟩,⟨h1,h6⟩,⟨l1,l3⟩,A0,fb⟩:=hp;have ZH: ∀a,M0 a->H a≠none:=fun a ha z=>hM a ha (fH.free z);have R1:Rep K M0 H [] (fun _=>0) (uh ["self","stacks","height","lift","bans"] (.ins C [] []:: [.int fl.st, .int fl.ht, .int fl.lf, .lst (fl.fK.map pD)])) (L2.start ["self","stacks","height","lift","bans"] (.ref x::us)) H:=
  rep0 ZH ⟨_,_,rfl,⟨x,dx, [],rfl,hx,rfl,rfl⟩,hd⟩
 have R2:=IU (R1.drop1 (i:=0)) hM fH (fun i ds e=>by
  have:i < 5:=(aB.mp e).1
  match i,this with
  | 0,_=>cases e
  | 1,_=>cases e
  | 2,_=>cases e
  | 3,_=>cases e
  | 4,_=>cases e)
 have CK:(L2.start ["self","stacks","height","lift","bans"] (.ref x::us))[0]? =some (some (.ref x)):=rfl;generalize L2.start ["self","stacks","height","lift","bans"] (.ref x::us)=σ at R2 CK ⊢;change Rep K M0 (eV H x) [] (fun _=>0) [.un, .im (.int fl.st), .im (.int fl.ht), .im (.int fl.lf), .im (.lst (fl.fK.map pD))] σ H at R2;have hi: ∀sl∈([.un, .im (.int fl.st), .im (.int fl.ht), .im (.int fl.lf), .im (.lst (fl.fK.map pD))]:fB),sl= .un\/ ∃d,sl= .im d/\D.noI 9 d:=fun sl hs=>by
  have:sl= .un\/sl= .im (.int fl.st)\/sl= .im (.int fl.ht)\/sl= .im (.int fl.lf)\/sl= .im (.lst (fl.fK.map pD)):=by simpa using hs
  rcases this with rfl | rfl | rfl | rfl | rfl
  ·exact .inl rfl
  ·exact .inr ⟨_,rfl,trivial⟩
  ·exact .inr ⟨_,rfl,trivial⟩
  ·exact .inr ⟨_,rfl,trivial⟩
  ·exact .inr ⟨_,rfl,Ec 7 _⟩
 refine(dh rV gr).to (t_ (ρ:= [.un, .im (.int fl.st), .im (.int fl.ht), .im (.int fl.lf), .im (.lst (fl.fK.map pD))]) (cg.to (cg.not (cg.val (ar.call G1 (hr.mono (by decide)) (aP nx) rfl (fl.st,2,4) (aU.cons (nm 1 rfl rfl) (aU.cons (uO B.iT rfl) (aU.cons (uO B.most rfl) aU.nil))) trivial rfl))) (by rw [decide_eq_true s2,decide_eq_true s4]; rfl)) R2 fun H1 t1=> ?_);have R3:=R2.next t1;refine(dh rV gr).to (t_ (ρ:= [.un, .im (.int fl.st), .im (.int fl.ht), .im (.int fl.lf), .im (.lst (fl.fK.map pD))]) (cg.to (cg.not (cg.val (ar.call G1 (hr.mono (by decide)) (aP nx) rfl (fl.ht,1,6) (aU.cons (nm 2 rfl rfl) (aU.cons (uO B.low rfl) (aU.cons (uO B.great rfl) aU.nil))) trivial rfl))) (by rw [decide_eq_true h1,decide_eq_true h6]; rfl)) R3 fun H2 t2=> ?_);have R4:=R3.next t2;refine(dh rV gr).to (t_ (ρ:= [.un, .im (.int fl.st), .im (.int fl.ht), .im (.int fl.lf), .im (.lst (fl.fK.map pD))]) (cg.to (cg.not (cg.val (ar.call G1 (hr.mono (by decide)) (aP nx) rfl (fl.lf,1,3) (aU.cons (nm 3 rfl rfl) (aU.cons (uO B.weak rfl) (aU.cons (uO B.GJ rfl) aU.nil))) trivial rfl))) (by rw [decide_eq_true l1,decide_eq_true l3]; rfl)) R4 fun H3 t3=> ?_);have R5:=R4.next t3;refine(dh rV gr).to (t_ (ρ:= [.un, .im (.int fl.st), .im (.int fl.ht), .im (.int fl.lf), .im (.lst (fl.fK.map pD))]) (cg.to (cg.not (cg.val (ar.call G2 hr (aP nx) rfl fl.fK (aU.cons (nm 4 rfl rfl) aU.nil) (show fl.fK.length<=100 by omega) rfl))) (by rw [fb,decide_eq_true A0]; rfl)) R5 fun H4 t4=> ?_);have R6:=R5.next t4;have x4:H4 x=some (.ins C dx []):=t4 _ _ (t3 _ _ (t2 _ _ (t1 _ _ hx)));refine(dh rV gr).to (Ct 0 rfl (.inl rfl) CK T.cl T.n1 (by decide) (nm 1 rfl rfl) R6 x4 fun v1 H5 t5 d5=> ?_);cases (show v1=V.int fl.st from d5);have x5:=t5 _ _ x4;have R7:=(R6.next t5).ins (fs':=gG "stack_count" (V.int fl.st) []) qz x5 hi;refine(dh rV gr).to (Ct 0 rfl (.inl rfl) CK T.cl T.n2 (by show 1 < 1000; decide) (nm 2 rfl rfl) R7 bI fun v2 H6 t6 d6=> ?_);cases (show v2=V.int fl.ht from d6);have x6:=t6 _ _ bI;have R8:=(R7.next t6).ins (fs':=gG "most_crates" (V.int fl.ht) (gG "stack_count" (V.int fl.st) [])) qz x6 hi;refine(dh rV gr).to (Ct 0 rfl (.inl rfl) CK T.cl T.n3 (jc (jP _ _ _) (by show 2 < 1000; decide)) (nm 3 rfl rfl) R8 bI fun v3 H7 t7 d7=> ?_);cases (show v3=V.int fl.lf from d7);have x7:=t7 _ _ bI;have R9:=(R8.next t7).ins (fs':=gG "crane_strength" (V.int fl.lf) (gG "most_crates" (V.int fl.ht) (gG "stack_count" (V.int fl.st) []))) qz x7 hi;refine(qv rV).to (Lj 0 rfl (.inl rfl) CK T.cl T.n4 (jc (jP _ _ _) (jc (Nat.succ_le_succ (jP _ _ _)) (by show 3 < 1000; decide))) (ar.toP (R:=fun d=> ∃qs:dQ,d= .tup (qs.map pairD)/\qs=iu fl.fK) (ar.sortedSetT (ps:=fl.fK) rfl (jc (Nat.add_le_add_left (by decide:16<=16 * 4+200) _) (by have:=hr.un; rw [mR]at this; exact this)) rfl B.tuple rfl B.sorted rfl B.set (ar.r (nm 4 rfl rfl)) A0) ⟨_,rfl,rfl⟩) R9 bI fun d4 v4 H8 ZE t8 d8=> ?_);obtain⟨qs,rfl,hq⟩:=ZE;have x8:=t8 _ _ bI;have ZN:=(R9.next t8).ins (fs':=gG "banned_pairs" v4 (gG "crane_strength" (V.int fl.lf) (gG "most_crates" (V.int fl.ht) (gG "stack_count" (V.int fl.st) [])))) qz x8 hi;have d9:Dn K M0 (upd H8 x (.ins C dx (gG "banned_pairs" v4 (gG "crane_strength" (V.int fl.lf) (gG "most_crates" (V.int fl.ht) (gG "stack_count" (V.int fl.st) [])))))) (.tup (qs.map pD)) v4:=Dn.noI (GQ x8) 9 (Ec 7 qs) (d8.less fun a ha=> .inl ha);refine kk (tO fl qs) [("stack_count", .int fl.st),("most_crates", .int fl.ht),("crane_strength", .int fl.lf),("banned_pairs",v4)] _ ⟨qs,rfl,hq⟩ ZN.same (by rw [bI,P7]) rfl ⟨_,_,rfl,rfl,_,_,rfl,rfl,_,_,rfl,rfl,_,_,rfl,d9,rfl⟩
end
theorem Mp(n d:Nat):HT.gO n d (some 1)=min 1 n:=by
 unfold HT.gO;simp
theorem Lg(ds:List D):cutD ds (some 1) none=ds.drop 1:=by
 unfold cutD;rw [Mp];cases ds with
 | nil=>rfl
 | cons a l=>
  have e:min 1 (a::l).length=1:=by simp
  rw [e];show((a::l).drop 1).take ((a::l).length - 1)=_;rw [dg (by simp)]
def Na(f:c5)(r:List Int):Bool:= !((r.drop 1).zip r).any fun p=>decide (p∈f.fK)
theorem Ha(f:c5)(r:List Int):jL f r=(decide ((r.length:Int)<=f.ht)&&(r.all kn&&Na f r)):=by
 unfold jL;congr 1;rw [kN];simp only [nh,cy,bN,Na,g6,List.any_eq_false,decide_eq_true_eq];have gd: ∀k (h:k < r.length),r.getD k 0=r[k]:=fun k h=>by rw [aS,ak h]; rfl
 constructor
 ·intro h;refine⟨fun x hx=> ?_,fun p hp hm=> ?_⟩
  ·obtain⟨k,hk,rfl⟩:=eE hx;have:=h k hk;unfold x9 at this;rw [gd k hk,bN]at this;exact this.1
  ·obtain⟨k,hk,e⟩:=eE hp;rw [cw,bq]at hk;have U0:k+1 < r.length:=by omega
   have h1:=h (k+1) U0;unfold x9 at h1;rw [gd _ U0,show k+1 - 1=k from rfl,gd k (by omega)]at h1;rw [gD,dj]at e;have e':(r[k+1],r[k])=p:=by
    rw [<-e];congr 2;omega
   rw [e']at h1;simp [hm]at h1
 ·rintro⟨h1,h2⟩ k hk;unfold x9;rw [gd k hk,bN];refine⟨h1 _ (aX hk), ?_⟩;rw [g6,jY]
  by_cases h0:0 < k
  ·refine .inr (decide_eq_false ?_);rw [gd (k - 1) (by omega)];refine h2 _ ?_;have hl:k - 1 < ((r.drop 1).zip r).length:=by rw [cw,bq]; omega
   have e:((r.drop 1).zip r)[k - 1]=(r[k],r[k - 1]):=by
    rw [gD,dj];congr 2;omega
   rw [<-e];exact aX hl
  ·exact .inl (decide_eq_false h0)
structure gu(f:c5)(qs:dQ):Prop where
 ok:qm f
 iT:qs.length<=20
 mem: ∀q,q∈qs↔q∈f.fK
section
variable {P:aH}{w:aW}{K:Frag}{mg:Str->Option af}{base:aY}{CX:k_}{C:ai}
structure Fl(P:aH)(w:aW)(K:Frag)(mg:Str->Option af)(base:aY)(CX:k_)(C:ai):Prop where
 t:Od K C
 st:Ed P w K mg base CX C
 ht:Dw P w K mg base CX C
 lf:MY P w K mg base CX C
 bs:MT P w K mg base CX C
theorem rP:bM ["floor","stack","bans"] ["floor","stack"] (aL mC):=l8
variable (P w K mg base CX)in
abbrev pP(C:ai):Prop:=
 j6 P w K mg base CX 3 "is_good_stack" (fun i:c5×dQ×List Int=> [g9 C i.1 i.2.1,An true (i.2.2.map .int)]) (fun i=>gu i.1 i.2.1/\i.2.2.length<=1000) (fun i=> .ok (.bl (jL i.1 i.2.2)))
theorem E5(as bs:List Int):Hy (as.map .int) (bs.map .int)=(as.zip bs).map pD:=by
 unfold Hy;rw [List.zip_map,cH];rfl
theorem xC{f:ai}{fd:bb}(nx:NX CX)(B:Bm mg)(L:Fl P w K mg base CX C)(G:xZ P w K mg base CX)(F:ji K "is_good_stack" "is_good_stack" mC f fd)(hm:mg "is_good_stack"=some (.ref f))(hb:Binds K fd ["floor","stack"] []):pP P w K mg base CX C:=by
 refine eu F rP hm hb (fun i=>rfl) fun dX A outer s H E i M0 hp hr=>⟨_,rfl, ?_⟩;obtain⟨fl,qs,r⟩:=i;obtain⟨hS,hlen⟩:gu fl qs/\r.length<=1000:=hp;have px:=rP.nd;have mj:=hr.mono (show 1<=2 by decide);change WS _ M0 H (bo mC) [.im (g9 C fl qs), .im (.tup (r.map .int)), .un] _;rw [Ha];refine WS.cons (W1.ite (fk.t (fk.or (cg.not (cg.val (ar.nH rfl B.nH rfl B.tuple (by decide +kernel) (.inr (.inr (.inr (.inl rfl)))) (ar.r (nm 1 rfl rfl)) rfl))) fun _=>fk.or1 (cg.cI .gt (ar.lenT rfl B.len (nm 1 rfl rfl)) (ar.meth0 L.t.cl L.ht mj (aP nx) (fl,qs) (nm 0 rfl rfl) rfl trivial rfl)))) (fun h=> ?_) fun h=>WS.nil ?_)
 ·rw [mF,ae]at h;have h':fl.ht < (r.length:Int):=by simpa using h
  exact WS.one (W1.ret ar.bl (by dsimp only; rw [decide_eq_false (by omega)]; rfl))
 rw [mF,ae]at h;have hle:(r.length:Int)<=fl.ht:=by
  have: ¬fl.ht < (r.length:Int):=by simpa using h
  omega
 rw [decide_eq_true hle,iR];refine WS.cons (W1.ite (cg.not (cg.val (ar.all (bs:=r.map kn) rfl rfl B.all (ar.r (dF.toD (dF.comp (ds:=r.map .int) (es:=(r.map kn).map D.bl) (cs:= []) (dU.closed (by decide +kernel) (by decide +kernel) rfl (by decide +kernel) rfl) rfl (by decide +kernel) (iU.tup (nm 1 rfl rfl)) rh (by simp) (by rw [ae]; omega) ?_)))))) (fun h=> ?_) fun h=>WS.nil ?_)
 ·intro C s₀ H₀ fp pins i d e h1 h2;rw [aA]at h1;rw [aA,aA]at h2;cases ei:r[i]? with
  | none=>rw [ei]at h1; cases h1
  | some v=>
   rw [ei]at h1 h2;cases h1;cases h2;exact ar.call G hr (aP nx) rfl v (aU.cons (nm 0 rfl rfl) aU.nil) trivial rfl
 ·have h':r.all kn=false:=by simpa using h
  exact WS.one (W1.ret ar.bl (by rw [h']; rfl))
 have h':r.all kn=true:=by rw [List.all_map]at h; simpa using h
 rw [h',iR];refine WS.cons (W1.set (i:=2) px rfl (.inr rfl) (fz rfl) (ar.meth0 L.t.cl L.bs mj (aP nx) (fl,qs) (nm 0 rfl rfl) rfl trivial rfl) ?_);change WS _ M0 H _ [.im (g9 C fl qs), .im (.tup (r.map .int)), .im (.lst (qs.map pD))] _;refine WS.one (W1.ret (ar.to (ar.not (ar.any (bs:=((r.drop 1).zip r).map fun p=>decide (p∈fl.fK)) rfl rfl B.any (ar.r (dF.toD (dF.comp (ds:=((r.drop 1).zip r).map pD) (es:=(((r.drop 1).zip r).map fun p=>decide (p∈fl.fK)).map D.bl) (cs:= [.lst (qs.map pD)]) (N':= ["pair","bans"]) (js:= [2])
  (dU.cap1 (pre:= [(".0", .local),("pair", .local)]) (post:= []) (rn:= [(".0", .local),("pair", .local),("bans", .cell)]) rfl (by decide +kernel) (by decide +kernel) rfl (by decide +kernel) rfl (by decide +kernel) rfl rfl rfl rfl rfl (by decide +kernel)) rfl (by decide +kernel)
  (iU.to (iU.zipT rfl B.zip (ar.cutT (nm 1 rfl rfl) (tK.some ar.int) tK.none) (nm 1 rfl rfl)) (by rw [Lg, <-Bq,E5])) (Ni rfl) (by simp) (by rw [ae,cw]; omega) ?_))))) (by rw [List.any_map]; rfl)) rfl)
 intro C s₀ H₀ fp pins i d e h1 h2;rw [aA]at h1;rw [aA,aA]at h2;cases ei:((r.drop 1).zip r)[i]? with
 | none=>rw [ei]at h1; cases h1
 | some v=>
  rw [ei]at h1 h2;cases h1;cases h2;refine ar.to (ar.inL (pN hr) (ar.r (nm 0 rfl rfl)) (ar.r (nm 1 rfl rfl)) (xK 59 v) AA) ?_;rw [rf];congr 1;exact decide_eq_decide.mpr (hS.mem v)
end
abbrev Rows:=List (List Int)
abbrev jf:=Int×Int×Int
def tD(t:jf):D:= .tup [.int t.1, .int t.2.1, .int t.2.2]
def yb(f:c5)(v:Int):Bool:=decide (0<=v)&&decide (v<=f.st - 1)
def rowAt(rows:Rows)(v:Int):List Int:=rows.getD v.toNat []
def least(a b:Int):Int:=if b < a then b else a
def n9(f:c5)(rows:Rows)(t:jf):Bool:=(yb f t.1&&(yb f t.2.1&& !decide (t.1=t.2.1)))&&(decide (1<=t.2.2)&&decide (t.2.2<=least f.lf (rowAt rows t.1).length))
def mv(rows:Rows)(t:jf):Rows:=
 (rows.set t.1.toNat ((rowAt rows t.1).take ((rowAt rows t.1).length - t.2.2.toNat))).set t.2.1.toNat (rowAt rows t.2.1 ++ (rowAt rows t.1).drop ((rowAt rows t.1).length - t.2.2.toNat))
def isLet(f:c5)(rows:Rows)(t:jf):Bool:=n9 f rows t&&good f (mv rows t)
structure Kt(f:c5)(rows:Rows)(t:jf):Prop where
 a0:0<=t.1
 a1:t.1 < f.st
 b0:0<=t.2.1
 b1:t.2.1 < f.st
 ne:t.1≠t.2.1
 n1:1<=t.2.2
 nl:t.2.2<=f.lf
 nr:t.2.2<=(rowAt rows t.1).length
theorem kq{f:c5}{rows:Rows}{t:jf}:n9 f rows t=true↔Kt f rows t:=by
 unfold n9 yb least;simp only [bN,decide_eq_true_eq,g6,decide_eq_false_iff_not];constructor
 ·rintro⟨⟨⟨h1,h2⟩,⟨h3,h4⟩,h5⟩,h6,h7⟩
  split at h7
  ·exact⟨h1,by omega,h3,by omega,h5,h6,by omega,h7⟩
  ·exact⟨h1,by omega,h3,by omega,h5,h6,h7,by omega⟩
 ·rintro⟨h1,h2,h3,h4,h5,h6,h7,h8⟩;refine⟨⟨⟨h1,by omega⟩,⟨h3,by omega⟩,h5⟩,h6, ?_⟩
  split <;> omega
theorem nI: ∀(rows:Rows) (i:Nat) (x:List Int),i < rows.length->(rows.set i x).flatten.Perm (x ++ (rows.set i []).flatten)
 | [],i,x,h=>absurd h (iX _)
 | r::rows,0,x,h=>by simp
 | r::rows,i+1,x,h=>by
  have ih:=nI rows i x (by simpa using h);rw [Kq,Kq,cO,cO];refine(ih.append_left r).trans ?_;rw [<-aO, <-aO];exact cY.append_right _
theorem jk{rows:Rows}{v:Int}(h0:0<=v)(h:v < rows.length):rows[v.toNat]? =some (rowAt rows v):=by
 unfold rowAt;have:v.toNat < rows.length:=by omega
 rw [aS,ak this];rfl
theorem qJ{rows:Rows}{i:Nat}{r:List Int}(h:rows[i]? =some r):rows.set i r=rows:=by
 apply e7;intro j;rw [eZ]
 split
 ·rename_i e;subst e;have:i < rows.length:=(aB.mp h).1;rw [if_pos this,h]
 ·rfl
theorem Cj(rows:Rows)(t:jf):(mv rows t).length=rows.length:=by unfold mv; rw [bF,bF]
theorem yh{f:c5}{rows:Rows}{t:jf}(hl:(rows.length:Int)=f.st)(h:Kt f rows t):(mv rows t).flatten.Perm rows.flatten:=by
 obtain⟨a0,a1,b0,b1,ne,n1,nl,nr⟩:=h;have ha:t.1.toNat < rows.length:=by omega
 have hb:t.2.1.toNat < rows.length:=by omega
 have ja:t.1.toNat≠t.2.1.toNat:=by omega
 have ea:=jk a0 (by omega:t.1 < rows.length);have eb:=jk b0 (by omega:t.2.1 < rows.length);unfold mv;generalize rowAt rows t.1=ra at *;generalize rowAt rows t.2.1=rb at *;generalize (ra.length - t.2.2.toNat)=k;generalize t.1.toNat=i at *;generalize t.2.1.toNat=j at *;have p1:=nI (rows.set i (ra.take k)) j (rb ++ ra.drop k) (by rw [bF]; exact hb);have p2:=nI (rows.set j []) i (ra.take k) (by rw [bF]; exact ha);rw [List.set_comm (ra.take k) [] ja]at p1;have q1:=nI rows i ra ha;rw [qJ ea]at q1;have ZV:(rows.set i [])[j]? =some rb:=by rw [FP ja]; exact eb
 have q2:=nI (rows.set i []) j rb (by rw [bF]; exact hb);rw [qJ ZV,List.set_comm _ _ ja]at q2;refine p1.trans (((p2.append_left (rb ++ ra.drop k))).trans ((q1.trans (q2.append_left ra)).trans ?_).symm);generalize ((rows.set j []).set i []).flatten=rest;have e:ra=ra.take k ++ ra.drop k:=(ba k ra).symm;rw [<-aO, <-aO];refine List.Perm.append_right _ ?_;refine cY.trans ?_;rw [aO];refine eL rb ?_;refine kQ (List.Perm.of_eq e) cY
theorem Dc(n d:Nat)(k:Nat)(h:k<=n):HT.gO n d (some (k:Int))=k:=by
 unfold HT.gO;simp;rw [if_neg (by omega)];omega
theorem Gw{ds:List D}{k:Nat}(h:k<=ds.length):cutD ds none (some (k:Int))=ds.take k:=by
 unfold cutD;rw [Dc _ _ _ h];show(ds.drop 0).take (k - 0)=_;rw [qc,Nat.sub_zero]
theorem BY{ds:List D}{k:Nat}(h:k<=ds.length):cutD ds (some (k:Int)) none=ds.drop k:=by
 unfold cutD;rw [Dc _ _ _ h];show(ds.drop k).take (ds.length - k)=_;rw [dg (by rw [bq]; exact ay _)]
theorem LR{X:Cx}{ρ:fB}{a b:Expr}{p pos:Pos}{i j:Int}(hc:X.calm=true)(hg:Gl X "min")(hm:X.mg "min"=none)(ha:ar X ρ a (.int i))(hb:ar X ρ b (.int j))
  (he:ax [a,b] X.env=(false,bV a X.env)::ax [b] X.env:=by rfl)(si:ax [b] X.env= [(false,bV b X.env)]:=by rfl)(hpl:(fc pos (ax [b] X.env)).any (·.1)=false:=by rfl):ar X ρ (.Call (.Name "min" p) [a,b] [] pos) (.int (if j < i then j else i)):=
 ar.min hc hg hm (by decide +kernel) ha hb he si hpl
section
variable {P:aH}{w:aW}{K:Frag}{mg:Str->Option af}{base:aY}{CX:k_}{C:ai}
theorem zD:bM ["floor","standing","crates","stack"] ["floor","standing"] (aL sM):=l8
structure Small(rows:Rows):Prop where
 fl:rows.flatten.length<=1000
 n:rows.length<=1000
variable (P w K mg base CX)in
abbrev tq(C:ai):Prop:=
 j6 P w K mg base CX 4 "is_good" (fun i:c5×dQ×Rows=> [g9 C i.1 i.2.1, .tup (bt true i.2.2)]) (fun i=>gu i.1 i.2.1/\Small i.2.2) (fun i=> .ok (.bl (good i.1 i.2.2)))
theorem EV{f:ai}{fd:bb}(nx:NX CX)(B:Bm mg)(L:Fl P w K mg base CX C)(G:pP P w K mg base CX C)(F:ji K "is_good" "is_good" sM f fd)(hm:mg "is_good"=some (.ref f))(hb:Binds K fd ["floor","standing"] []):tq P w K mg base CX C:=by
 refine eu F zD hm hb (fun i=>rfl) fun dX A outer s H E i M0 hp hr=>⟨_,rfl, ?_⟩;obtain⟨fl,qs,rows⟩:=i;obtain⟨hS,Np,Kg⟩:gu fl qs/\Small rows:=hp;have px:=zD.nd;have hlen:(bt true rows).length=rows.length:=ae ..;change WS _ M0 H (bo sM) [.im (g9 C fl qs), .im (.tup (bt true rows)), .un, .un] {N:=fun _=>D.bl (good fl rows)= .non,R:=fun d'=>d'= .bl (good fl rows)};refine WS.cons (W1.ite (fk.t (fk.or (cg.not (cg.val (ar.nH rfl B.nH rfl B.tuple (by decide +kernel) (.inr (.inr (.inr (.inl rfl)))) (ar.r (nm 1 rfl rfl)) rfl))) fun _=>fk.or1 (cg.cI .ne (ar.lenT rfl B.len (nm 1 rfl rfl)) (ar.meth0 L.t.cl L.st (hr.mono (by decide)) (aP nx) (fl,qs) (nm 0 rfl rfl) rfl trivial rfl)))) (fun h=> ?_) fun h=>WS.nil ?_)
 ·rw [mF,hlen]at h;have h': ¬(rows.length:Int)=fl.st:=by simpa using h
  refine WS.one (W1.ret ar.bl ?_);show D.bl false=D.bl (good fl rows);unfold good;rw [decide_eq_false h'];rfl
 rw [mF,hlen]at h;have g1:(rows.length:Int)=fl.st:=by simpa using h
 refine WS.cons (W1.setF (i:=2) px rfl (.inl rfl) (fz rfl) (dF.lst aU.nil) ?_);refine WS.cons (W1.for (ds:=bt true rows) (fun i ρ=>(rows.take i).all (jL fl)=true/\ ∃a,ρ= [.im (g9 C fl qs), .im (.tup (bt true rows)), .mu ((rows.take i).flatten.map .int),a]) bu rfl (iU.tup (nm 1 rfl rfl)) ⟨by rw [h_]; rfl,_,by rw [h_]; rfl⟩ ?_ ?_)
 ·rintro i d ρ hd ⟨mf,a,rfl⟩;obtain⟨r,pF,rfl⟩:=fG hd;have l1:=jI rows i;have l2:=mx (aR pF);refine⟨_,sW.name (i:=3) px rfl (.inl rfl) (fz rfl), ?_⟩;change WS _ M0 H _ [.im (g9 C fl qs), .im (.tup (bt true rows)), .mu ((rows.take i).flatten.map .int), .im (An true (r.map .int))] _;refine WS.cons (W1.ite (cg.not (cg.val (ar.call G hr (aP nx) rfl (fl,qs,r) (aU.cons (nm 0 rfl rfl) (aU.cons (nm 3 rfl rfl) aU.nil)) ⟨hS,show r.length<=1000 by omega⟩ rfl))) (fun h3=> ?_) fun h3=>WS.nil ?_)
  ·refine WS.one (W1.ret ar.bl ?_);have hf:jL fl r=false:=by simpa using h3
   show D.bl false=D.bl (good fl rows);unfold good;have:rows.all (jL fl)=false:=by
    rw [KS];exact⟨r,aR pF,by rw [hf]; exact aG⟩
   rw [this,lM]
  have hf:jL fl r=true:=by simpa using h3
  refine WS.one (W1.extend (i:=2) (fs:=r.map .int) rfl (.inl rfl) rfl (nm 3 rfl rfl) rfl (by rw [ae,ae]; omega) ?_ ⟨rfl,rfl,rfl,rfl⟩);refine⟨?_, ?_⟩
  ·rw [di,pF,wz,mf];simp [hf]
  ·rw [oU pF,bw];exact⟨_,rfl⟩
 rintro ρ ⟨mf,a,rfl⟩;rw [hlen,df]at mf;rw [hlen,df];refine WS.one (W1.ret (ar.cI .eq (ar.lenSet rfl rfl B.len rfl B.set (zr 2 rfl rfl) (by omega)) (ar.lenL rfl B.len (zr 2 rfl rfl))) ?_);show D.bl (decide (_=_))=D.bl (good fl rows);congr 1;unfold good;rw [decide_eq_true g1,mf,iR,gS,ae];apply decide_eq_decide.mpr;rw [<-HF];omega
theorem Fv:bM ["floor","value"] ["floor","value"] (aL qr):=l8
variable (P w K mg base CX)in
abbrev uG(C:ai):Prop:=
 j6 P w K mg base CX 2 "is_stack" (fun i:c5×dQ×Int=> [g9 C i.1 i.2.1, .int i.2.2]) (fun _=>True) (fun i=> .ok (.bl (yb i.1 i.2.2)))
theorem Ck{f:ai}{fd:bb}(nx:NX CX)(L:Fl P w K mg base CX C)(G:oB P w K mg base CX)(F:ji K "is_stack" "is_stack" qr f fd)(hm:mg "is_stack"=some (.ref f))(hb:Binds K fd ["floor","value"] []):uG P w K mg base CX C:=by
 refine eu F Fv hm hb (fun i=>rfl) fun dX A outer s H E i M0 hp hr=>⟨_,rfl, ?_⟩;obtain⟨fl,qs,v⟩:=i;change WS _ M0 H (bo qr) [.im (g9 C fl qs), .im (.int v)] _;exact WS.one (W1.ret (ar.call G hr (aP nx) rfl (v,0,fl.st - 1) (aU.cons (nm 1 rfl rfl) (aU.cons ar.int (aU.cons (ar.sub (ar.meth0 L.t.cl L.st hr (aP nx) (fl,qs) (nm 0 rfl rfl) rfl trivial rfl) ar.int) aU.nil))) trivial rfl) rfl)
theorem lh{rows:Rows}{v:Int}(h0:0<=v)(h:v < rows.length):vY (bt true rows) v=some (An true ((rowAt rows v).map .int)):=by
 have e:v=((v.toNat:Nat):Int):=by omega
 have hl:(bt true rows).length=rows.length:=ae ..;rw [pM e (by rw [hl]; omega)];have:=jk h0 h;unfold bt;rw [a8];congr 3;have h2:v.toNat < rows.length:=by omega
 rw [ak h2]at this;exact aF this
theorem M4:bM ["floor","standing","lift","source","target"] ["floor","standing","lift"] (aL LN):=l8
variable (P w K mg base CX)in
abbrev OO(C:ai):Prop:=
 j6 P w K mg base CX 3 "can_be_done" (fun i:c5×dQ×Rows×jf=> [g9 C i.1 i.2.1, .tup (bt true i.2.2.1),tD i.2.2.2]) (fun i=>(i.2.2.1.length:Int)=i.1.st) (fun i=> .ok (.bl (n9 i.1 i.2.2.1 i.2.2.2)))
theorem Oa{f:ai}{fd:bb}(nx:NX CX)(B:Bm mg)(L:Fl P w K mg base CX C)(G1:uG P w K mg base CX C)(G2:oB P w K mg base CX)(F:ji K "can_be_done" "can_be_done" LN f fd)(hm:mg "can_be_done"=some (.ref f))(hb:Binds K fd ["floor","standing","lift"] []):OO P w K mg base CX C:=by
 refine eu F M4 hm hb (fun i=>rfl) fun dX A outer s H E i M0 hp hr=>⟨_,rfl, ?_⟩;obtain⟨fl,qs,rows,a,b,n⟩:=i;have hl:(rows.length:Int)=fl.st:=hp;have px:=M4.nd;have mj:=hr.mono (show 1<=2 by decide);change WS _ M0 H (bo LN) [.im (g9 C fl qs), .im (.tup (bt true rows)), .im (.tup [.int a, .int b, .int n]), .un, .un] {N:=fun _=>D.bl (n9 fl rows (a,b,n))= .non,R:=fun d'=>d'= .bl (n9 fl rows (a,b,n))};refine WS.cons (W1.ite (fk.t (fk.or (cg.not (cg.val (ar.nH rfl B.nH rfl B.tuple (by decide +kernel) (.inr (.inr (.inr (.inl rfl)))) (ar.r (nm 2 rfl rfl)) rfl))) fun _=>fk.or1 (cg.cI .ne (ar.lenT rfl B.len (nm 2 rfl rfl)) ar.int))) (fun h=> ?_) fun h=>WS.nil ?_)
 ·rw [mF]at h;simp at h
 refine WS.cons (W1.set (i:=3) px rfl (.inl rfl) (fz rfl) (ar.ixT (nm 2 rfl rfl) ar.int rfl) ?_);refine WS.cons (W1.set (i:=4) px rfl (.inl rfl) (fz rfl) (ar.ixT (nm 2 rfl rfl) ar.int rfl) ?_);change WS _ M0 H _ [.im (g9 C fl qs), .im (.tup (bt true rows)), .im (.tup [.int a, .int b, .int n]), .im (.int a), .im (.int b)] _;refine WS.cons (W1.ite (fk.t (fk.or (cg.not (cg.val (ar.call G1 hr (aP nx) rfl (fl,qs,a) (aU.cons (nm 0 rfl rfl) (aU.cons (nm 3 rfl rfl) aU.nil)) trivial rfl))) fun _=>fk.or (cg.not (cg.val (ar.call G1 hr (aP nx) rfl (fl,qs,b) (aU.cons (nm 0 rfl rfl) (aU.cons (nm 4 rfl rfl) aU.nil)) trivial rfl))) fun _=>fk.or1 (cg.cI .eq (nm 3 rfl rfl) (nm 4 rfl rfl)))) (fun h=> ?_) fun h=>WS.nil ?_)
 ·refine WS.one (W1.ret ar.bl ?_);show D.bl false=D.bl (n9 fl rows (a,b,n));have:(yb fl a&&(yb fl b&& !decide (a=b)))=false:=by
   cases h1:yb fl a <;> cases h2:yb fl b <;> simp_all
  unfold n9;rw [this,fC]
 ·have h3:(yb fl a&&(yb fl b&& !decide (a=b)))=true:=by
   cases h1:yb fl a <;> cases h2:yb fl b <;> simp_all
  have ha:0<=a/\a < rows.length:=by
   rw [bN]at h3;have:=h3.1;unfold yb at this;simp only [bN,decide_eq_true_eq]at this;omega
  refine WS.one (W1.ret (ar.call G2 mj (aP nx) rfl (n,1,least fl.lf (rowAt rows a).length) (aU.cons (ar.ixT (nm 2 rfl rfl) ar.int rfl) (aU.cons ar.int (aU.cons ?_ aU.nil))) trivial rfl) ?_)
  ·exact(ar.to (LR (i:=fl.lf) (j:=(rowAt rows a).length) rfl rfl B.min (ar.meth0 L.t.cl L.lf mj (aP nx) (fl,qs) (nm 0 rfl rfl) rfl trivial rfl) (ar.to (ar.lenS (t:=true) rfl B.len (ar.ixT (nm 1 rfl rfl) (nm 3 rfl rfl) (lh ha.1 ha.2))) (by rw [ae]))) rfl)
  show D.bl _=D.bl (n9 fl rows (a,b,n));unfold n9;rw [h3,iR]
end
theorem wH(rows:Rows)(i:Nat)(r:List Int):bt true (rows.set i r)=(bt true rows).set i (.tup (r.map .int)):=by
 unfold bt;rw [List.map_set];rfl
structure Jm(rows:Rows)(t:jf):Prop where
 a0:0<=t.1
 a1:t.1 < rows.length
 b0:0<=t.2.1
 b1:t.2.1 < rows.length
 n0:0<=t.2.2
 nr:t.2.2<=(rowAt rows t.1).length
 sm:Small rows
theorem Kt.mvOk{f:c5}{rows:Rows}{t:jf}(h:Kt f rows t)(hl:(rows.length:Int)=f.st)(sm:Small rows):Jm rows t:=⟨h.a0,by have:=h.a1; omega,h.b0,by have:=h.b1; omega,by have:=h.n1; omega,h.nr,sm⟩
theorem zZ{f:c5}{rows:Rows}{t:jf}(hl:(rows.length:Int)=f.st)(h:Kt f rows t)(sm:Small rows):Small (mv rows t):=⟨by rw [(yh hl h).length_eq]; exact sm.fl,by rw [Cj]; exact sm.n⟩
theorem lS{rows:Rows}{v:Int}(h0:0<=v)(h:v < rows.length):(rowAt rows v).length<=rows.flatten.length:=mx (aR (jk h0 h))
section
variable {P:aH}{w:aW}{K:Frag}{mg:Str->Option af}{base:aY}{CX:k_}{C:ai}
theorem D_:bM ["standing","lift","source","target","left","stacks"] ["standing","lift"] (aL yk):=l8
variable (P w K mg base CX)in
abbrev rg:Prop:=
 j6 P w K mg base CX 1 "moved" (fun i:Rows×jf=> [.tup (bt true i.1),tD i.2]) (fun i=>Jm i.1 i.2) (fun i=> .ok (.tup (bt true (mv i.1 i.2))))
theorem Hu{f:ai}{fd:bb}(B:Bm mg)(F:ji K "moved" "moved" yk f fd)(hm:mg "moved"=some (.ref f))(hb:Binds K fd ["standing","lift"] []):rg P w K mg base CX:=by
 refine eu F D_ hm hb (fun i=>rfl) fun dX A outer s H E i M0 hp hr=>⟨_,rfl, ?_⟩;obtain⟨rows,a,b,n⟩:=i;obtain⟨a0,a1,b0,b1,n0,nr,sm⟩:=(hp:Jm rows (a,b,n));dsimp only at a0 a1 b0 b1 n0 nr;have px:=D_.nd;have hl:(bt true rows).length=rows.length:=ae ..;have ra:=lS a0 a1;have rb:=lS b0 b1;have sf:rows.flatten.length<=1000:=sm.fl;have ek:((rowAt rows a).length:Int) - n=(((rowAt rows a).length - n.toNat:Nat):Int):=by omega
 change WS _ M0 H (bo yk) [.im (.tup (bt true rows)), .im (.tup [.int a, .int b, .int n]), .un, .un, .un, .un] {N:=fun _=>D.tup (bt true (mv rows (a,b,n)))= .non,R:=fun d'=>d'= .tup (bt true (mv rows (a,b,n)))};refine WS.cons (W1.set (i:=2) px rfl (.inl rfl) (fz rfl) (ar.ixT (nm 1 rfl rfl) ar.int rfl) ?_);refine WS.cons (W1.set (i:=3) px rfl (.inl rfl) (fz rfl) (ar.ixT (nm 1 rfl rfl) ar.int rfl) ?_);refine WS.cons (W1.set (i:=4) px rfl (.inl rfl) (fz rfl) (ar.to (ar.sub (ar.lenS (t:=true) rfl B.len (ar.ixT (nm 0 rfl rfl) (nm 2 rfl rfl) (lh a0 a1))) (ar.ixT (nm 1 rfl rfl) ar.int rfl)) (by rw [ae,ek])) ?_);refine WS.cons (W1.setF (i:=5) px rfl (.inl rfl) (fz rfl) (dF.listT rfl B.list (nm 0 rfl rfl)) ?_);change WS _ M0 H _ [.im (.tup (bt true rows)), .im (.tup [.int a, .int b, .int n]), .im (.int a), .im (.int b), .im (.int (((rowAt rows a).length - n.toNat:Nat):Int)), .mu (bt true rows)] _;refine WS.cons (W1.setIx (i:=5) (n:=a.toNat) rfl (.inl rfl) rfl (ar.to (ar.cutT (ar.ixT (nm 0 rfl rfl) (nm 2 rfl rfl) (lh a0 a1)) tK.none (tK.some (nm 4 rfl rfl))) (d':= .tup (((rowAt rows a).take ((rowAt rows a).length - n.toNat)).map .int)) (by rw [Gw (by rw [ae]; omega),List.map_take])) (nm 2 rfl rfl) (by omega) (by rw [hl]; omega) ?_);dsimp only;rw [<-wH];change WS _ M0 H _ [.im (.tup (bt true rows)), .im (.tup [.int a, .int b, .int n]), .im (.int a), .im (.int b), .im (.int (((rowAt rows a).length - n.toNat:Nat):Int)), .mu (bt true (rows.set a.toNat ((rowAt rows a).take ((rowAt rows a).length - n.toNat))))] _;refine WS.cons (W1.setIx (i:=5) (n:=b.toNat) rfl (.inl rfl) rfl (ar.to (ar.catT (ar.ixT (nm 0 rfl rfl) (nm 3 rfl rfl) (lh b0 b1)) (ar.cutT (ar.ixT (nm 0 rfl rfl) (nm 2 rfl rfl) (lh a0 a1)) (tK.some (nm 4 rfl rfl)) tK.none) ?_) (d':= .tup ((rowAt rows b ++ (rowAt rows a).drop ((rowAt rows a).length - n.toNat)).map .int)) ?_) (nm 3 rfl rfl) (by omega) ?_ ?_)
 ·rw [BY (by rw [ae]; omega),ae,bq,ae];omega
 ·rw [BY (by rw [ae]; omega),bw,Bq]
 ·show b.toNat < ((rows.set a.toNat _).map _).length;rw [ae,bF];omega
 dsimp only;rw [<-wH];exact WS.one (W1.ret (ar.tupleL rfl B.tuple (zr 5 rfl rfl)) rfl)
theorem LC:bM ["floor","standing","lift"] ["floor","standing","lift"] (aL x3):=l8
structure GO(f:c5)(qs:dQ)(rows:Rows):Prop where
 s:gu f qs
 l:(rows.length:Int)=f.st
 sm:Small rows
variable (P w K mg base CX)in
abbrev Cy(C:ai):Prop:=
 j6 P w K mg base CX 5 "is_let" (fun i:c5×dQ×Rows×jf=> [g9 C i.1 i.2.1, .tup (bt true i.2.2.1),tD i.2.2.2]) (fun i=>GO i.1 i.2.1 i.2.2.1) (fun i=> .ok (.bl (isLet i.1 i.2.2.1 i.2.2.2)))
theorem Iy{f:ai}{fd:bb}(nx:NX CX)(G1:OO P w K mg base CX C)(G2:tq P w K mg base CX C)(G3:rg P w K mg base CX)(F:ji K "is_let" "is_let" x3 f fd)(hm:mg "is_let"=some (.ref f))(hb:Binds K fd ["floor","standing","lift"] []):Cy P w K mg base CX C:=by
 refine eu F LC hm hb (fun i=>rfl) fun dX A outer s H E i M0 hp hr=>⟨_,rfl, ?_⟩;obtain⟨fl,qs,rows,t⟩:=i;obtain⟨hS,hl,sm⟩:=(hp:GO fl qs rows);change WS _ M0 H (bo x3) [.im (g9 C fl qs), .im (.tup (bt true rows)), .im (tD t)] {N:=fun _=>D.bl (isLet fl rows t)= .non,R:=fun d'=>d'= .bl (isLet fl rows t)};refine WS.one (W1.ret (ar.and (ar.call G1 (hr.mono (by decide)) (aP nx) rfl (fl,qs,rows,t) (aU.cons (nm 0 rfl rfl) (aU.cons (nm 1 rfl rfl) (aU.cons (nm 2 rfl rfl) aU.nil))) hl rfl) fun hc=>ar.one (ar.call G2 hr (aP nx) rfl (fl,qs,mv rows t) (aU.cons (nm 0 rfl rfl) (aU.cons (ar.call G3 (hr.mono (by decide)) (aP nx) rfl (rows,t) (aU.cons (nm 1 rfl rfl) (aU.cons (nm 2 rfl rfl) aU.nil)) ((kq.mp hc).mvOk hl sm) rfl) aU.nil)) ⟨hS,zZ hl (kq.mp hc) sm⟩ rfl)) rfl)
structure wd(f:c5)(qs:dQ)(rows:Rows):Prop where
 s:gu f qs
 g:good f rows=true
theorem wd.sm{f:c5}{qs:dQ}{rows:Rows}(h:wd f qs rows):Small rows:=by
 have h1:=pT h.g h.s.ok.st.2 h.s.ok.ht.2;have h2:=dS h.g;have h3:=h.s.ok.st.2;exact⟨by omega,by omega⟩
theorem wd.le{f:c5}{qs:dQ}{rows:Rows}(h:wd f qs rows):GO f qs rows:=⟨h.s,dS h.g,h.sm⟩
theorem GK:bM ["floor","standing"] ["floor","standing"] (aL qG):=l8
variable (P w K mg base CX)in
abbrev Lr(C:ai):Prop:=
 j6 P w K mg base CX 5 "refuse_unless_good" (fun i:c5×dQ×Rows=> [g9 C i.1 i.2.1, .tup (bt true i.2.2)]) (fun i=>wd i.1 i.2.1 i.2.2) (fun i=> .ok .non)
def tj(a b k:Nat):jf:=((0:Int)+(a:Int),(0:Int)+(b:Int),(1:Int)+(k:Int))
def vJ(f:c5)(rows:Rows)(a b n:Nat):List jf:=((bj n).map (tj a b)).filter (isLet f rows)
def wN(f:c5)(rows:Rows)(a m:Nat):List jf:=(bj m).flatMap fun b=>vJ f rows a b f.lf.toNat
def ya(f:c5)(rows:Rows)(m:Nat):List jf:=(bj m).flatMap fun a=>wN f rows a f.st.toNat
def lets(f:c5)(rows:Rows):List jf:=ya f rows f.st.toNat
theorem nz(f:c5)(rows:Rows)(a b n:Nat):vJ f rows a b (n+1)=vJ f rows a b n ++ (if isLet f rows (tj a b n)then [tj a b n]else []):=by
 unfold vJ;rw [oY,bw,Kr];congr 1;show List.filter _ [tj a b n]=_;rw [List.filter_cons];rfl
theorem uP(f:c5)(rows:Rows)(a m:Nat):wN f rows a (m+1)=wN f rows a m ++ vJ f rows a m f.lf.toNat:=by
 unfold wN;rw [oY,List.flatMap_append];simp
theorem uN(f:c5)(rows:Rows)(m:Nat):ya f rows (m+1)=ya f rows m ++ wN f rows m f.st.toNat:=by
 unfold ya;rw [oY,List.flatMap_append];simp
theorem xJ(f:c5)(rows:Rows)(a b n:Nat):(vJ f rows a b n).length<=n:=by
 unfold vJ;exact bg (List.length_filter_le _ _) (by rw [ae,bS]; exact ay _)
theorem s_(f:c5)(rows:Rows)(a:Nat): ∀m,(wN f rows a m).length<=f.lf.toNat * m
 | 0=>by simp [wN]
 | m+1=>by
  have h1:=s_ f rows a m;have h2:=xJ f rows a m f.lf.toNat;rw [uP,aq,Nat.mul_succ];omega
theorem sP(f:c5)(rows:Rows): ∀m,(ya f rows m).length<=f.lf.toNat * f.st.toNat * m
 | 0=>by simp [ya]
 | m+1=>by
  have h1:=sP f rows m;have h2:=s_ f rows m f.st.toNat;rw [uN,aq,Nat.mul_succ];omega
theorem Gs{f:c5}{rows:Rows}{t:jf}(h1:0<=f.st)(h2:0<=f.lf):t∈lets f rows↔isLet f rows t=true:=by
 unfold lets ya wN vJ;simp only [vH,cy,kM,aE];constructor
 ·rintro⟨a,_,b,_,_,h⟩;exact h
 ·intro h;have hc:Kt f rows t:=kq.mp (by unfold isLet at h; rw [bN]at h; exact h.1);obtain⟨a0,a1,b0,b1,ne,n1,nl,nr⟩:=hc;obtain⟨a,b,n⟩:=t;dsimp only at *;refine⟨a.toNat,by omega,b.toNat,by omega,⟨(n - 1).toNat,by omega, ?_⟩,h⟩;unfold tj;have e1:(0:Int)+(a.toNat:Int)=a:=by omega
  have e2:(0:Int)+(b.toNat:Int)=b:=by omega
  have e3:(1:Int)+((n - 1).toNat:Int)=n:=by omega
  rw [e1,e2,e3]
theorem DW:bM ["floor","standing","found","source","target","many","lift"] ["floor","standing"] (aL uL):=l8
variable (P w K mg base CX)in
abbrev yu(C:ai):Prop:=
 j6 P w K mg base CX 6 "lifts" (fun i:c5×dQ×Rows=> [g9 C i.1 i.2.1, .tup (bt true i.2.2)]) (fun i=>wd i.1 i.2.1 i.2.2) (fun i=> .ok (.lst ((lets i.1 i.2.2).map tD)))
end
section
variable {P:aH}{w:aW}{K:Frag}{mg:Str->Option af}{base:aY}{C CS CL:ai}
variable (P w K mg base)in
abbrev kI(C CS:ai):Prop:=
 j6 P w K mg base (fP P w) 5 "refuse_unless_good" (fun i:c5×dQ×Rows=> [g9 C i.1 i.2.1, .tup (bt true i.2.2)]) (fun i=>gu i.1 i.2.1/\Small i.2.2) (fun i=>if good i.1 i.2.2 then .ok .non else .error CS)
theorem Cg{f:ai}{fd:bb}(er:AB "NoStanding" CS mg base)(G:tq P w K mg base (fP P w) C)(F:ji K "refuse_unless_good" "refuse_unless_good" qG f fd)(hm:mg "refuse_unless_good"=some (.ref f))(hb:Binds K fd ["floor","standing"] []):kI P w K mg base C CS:=by
 refine oS F GK hm hb (fun i=>rfl) fun dX A outer s H E i M0 hp hr=> ?_;obtain⟨fl,qs,rows⟩:=i;obtain⟨hS,sm⟩:gu fl qs/\Small rows:=hp;have nx:NX (fP P w):=kG
 by_cases hg:good fl rows=true
 ·refine .inl ⟨.non,if_pos hg, ?_⟩;change WS _ M0 H (bo qG) [.im (g9 C fl qs), .im (.tup (bt true rows))] {N:=fun _=>D.non= .non,R:=fun d'=>d'= .non};refine WS.one (W1.ite (cg.not (cg.val (ar.call G hr (aP nx) rfl (fl,qs,rows) (aU.cons (nm 0 rfl rfl) (aU.cons (nm 1 rfl rfl) aU.nil)) ⟨hS,sm⟩ rfl))) (fun h=> ?_) fun h=>WS.nil rfl);rw [hg]at h;cases h
 ·refine .inr ⟨CS,if_neg hg, ?_⟩;change f7 _ [.im (g9 C fl qs), .im (.tup (bt true rows))] E (bo qG) CS;refine f7.here (vW.ite (t:=true) (cg.to (cg.not (cg.val (ar.call G hr (aP nx) rfl (fl,qs,rows) (aU.cons (nm 0 rfl rfl) (aU.cons (nm 1 rfl rfl) aU.nil)) ⟨hS,sm⟩ rfl))) (by simp [hg])) (fun _=>f7.here (vW.raise er rfl ar.str)) fun h=>by cases h)
end
theorem nA{P:aH}{w:aW}{K:Frag}{mg:Str->Option af}{base:aY}{CX:k_}{k:Nat}{x:Str}{ι:Type}{args:ι->List D}{pre Rq:ι->Prop}{res Q4:ι->Except ai D}(F:j6 P w K mg base CX k x args pre res)(h: ∀i,Rq i->pre i/\res i=Q4 i):j6 P w K mg base CX k x args Rq Q4:=by
 obtain⟨f,fd,ps,F,r⟩:=F.ex;refine⟨f,fd,ps,F.imp fun vs H Q E ⟨i,M0,hM,d,hp,k1,k2⟩=> ?_,r⟩;obtain⟨p,e⟩:=h i hp;exact⟨i,M0,hM,d,p,by rw [e]; exact k1,by rw [e]; exact k2⟩
section
variable {P:aH}{w:aW}{K:Frag}{mg:Str->Option af}{base:aY}{C CS CL:ai}
theorem zB(G:kI P w K mg base C CS):Lr P w K mg base (fP P w) C:=nA G fun i h=>⟨⟨h.s,h.sm⟩,if_pos h.g⟩
variable (P w K mg base)in
abbrev yl(C CS:ai):Prop:=
 j6 P w K mg base (fP P w) 6 "lifts" (fun i:c5×dQ×Rows=> [g9 C i.1 i.2.1, .tup (bt true i.2.2)]) (fun i=>gu i.1 i.2.1/\Small i.2.2) (fun i=>if good i.1 i.2.2 then .ok (.lst ((lets i.1 i.2.2).map tD))else .error CS)
theorem FC{f:ai}{fd:bb}(B:Bm mg)(L:Fl P w K mg base (fP P w) C)(GX:kI P w K mg base C CS)(G2:Cy P w K mg base (fP P w) C)(F:ji K "lifts" "lifts" uL f fd)(hm:mg "lifts"=some (.ref f))(hb:Binds K fd ["floor","standing"] []):yl P w K mg base C CS:=by
 have nx:NX (fP P w):=kG;have G1:=zB GX;refine oS F DW hm hb (fun i=>rfl) fun dX A outer s H E i M0 hp hr=> ?_;obtain⟨fl,qs,rows⟩:=i;obtain⟨hS,sm⟩:gu fl qs/\Small rows:=hp
 by_cases O8:good fl rows=true
 ·refine .inl ⟨_,if_pos O8, ?_⟩;have hg:wd fl qs rows:=⟨hS,O8⟩;have px:=DW.nd;have mj:=hr.mono (show 1<=5 by decide);have st:=hg.s.ok.st;have lf:=hg.s.ok.lf;have RO:fl.lf.toNat<=3:=by omega
  have VN:fl.st.toNat<=4:=by omega
  have b1:fl.lf.toNat * fl.st.toNat<=12:=ip RO VN;change WS _ M0 H (bo uL) [.im (g9 C fl qs), .im (.tup (bt true rows)), .un, .un, .un, .un, .un] {N:=fun _=>D.lst ((lets fl rows).map tD)= .non,R:=fun d'=>d'= .lst ((lets fl rows).map tD)};refine WS.cons (W1.expr (ar.call G1 hr (aP nx) rfl (fl,qs,rows) (aU.cons (nm 0 rfl rfl) (aU.cons (nm 1 rfl rfl) aU.nil)) hg rfl) ?_);refine WS.cons (W1.setF (i:=2) px rfl (.inl rfl) (fz rfl) (dF.lst aU.nil) ?_);refine WS.cons (W1.for (ds:=jV 0 fl.st.toNat) (fun i ρ=> ∃a b c d,ρ= [.im (g9 C fl qs), .im (.tup (bt true rows)), .mu ((ya fl rows i).map tD),a,b,c,d]) bu rfl (iU.range rfl B.range (ar.meth0 L.t.cl L.st mj (aP nx) (fl,qs) (nm 0 rfl rfl) rfl trivial rfl) (by omega)) ⟨_,_,_,_,rfl⟩ ?_ ?_)
  ·rintro i d ρ hd ⟨a,b,c,d',rfl⟩;obtain⟨rfl,hi⟩:=gE hd;have Bw:=sP fl rows i;have b2:fl.lf.toNat * fl.st.toNat * i<=12 * 4:=ip b1 (by omega);refine⟨_,sW.name (i:=3) px rfl (.inl rfl) (fz rfl), ?_⟩;refine WS.one (W1.for (ds:=jV 0 fl.st.toNat) (fun j ρ=> ∃b c d,ρ= [.im (g9 C fl qs), .im (.tup (bt true rows)), .mu ((ya fl rows i ++ wN fl rows i j).map tD), .im (.int (0+(i:Int))),b,c,d]) bu rfl (iU.range rfl B.range (ar.meth0 L.t.cl L.st mj (aP nx) (fl,qs) (nm 0 rfl rfl) rfl trivial rfl) (by omega)) ⟨_,_,_,by rw [show wN fl rows i 0= []from rfl,bz]; rfl⟩ ?_ ?_)
   ·rintro j d ρ hd ⟨b,c,d',rfl⟩;obtain⟨rfl,hj⟩:=gE hd;have zb:=s_ fl rows i j;have b3:fl.lf.toNat * j<=3 * 4:=ip RO (by omega);refine⟨_,sW.name (i:=4) px rfl (.inl rfl) (fz rfl), ?_⟩;refine WS.one (W1.for (ds:=jV 1 fl.lf.toNat) (fun k ρ=> ∃c d,ρ= [.im (g9 C fl qs), .im (.tup (bt true rows)), .mu ((ya fl rows i ++ wN fl rows i j ++ vJ fl rows i j k).map tD), .im (.int (0+(i:Int))), .im (.int (0+(j:Int))),c,d]) bu rfl
     (iU.to (iU.range2 (i:=1) (j:=fl.lf+1) rfl B.range ar.int (ar.add (ar.meth0 L.t.cl L.lf mj (aP nx) (fl,qs) (nm 0 rfl rfl) rfl trivial rfl) ar.int) (by omega)) (by congr 1; omega)) ⟨_,_,by rw [show vJ fl rows i j 0= []from rfl,bz]; rfl⟩ ?_ ?_)
    ·rintro k d ρ hd ⟨c,d',rfl⟩;obtain⟨rfl,hk⟩:=gE hd;have ZJ:=xJ fl rows i j k;refine⟨_,sW.name (i:=5) px rfl (.inl rfl) (fz rfl), ?_⟩;refine WS.cons (W1.set (i:=6) px rfl (.inl rfl) (fz rfl) (ar.tup (aU.cons (nm 3 rfl rfl) (aU.cons (nm 4 rfl rfl) (aU.cons (nm 5 rfl rfl) aU.nil)))) ?_);change WS _ M0 H _ [.im (g9 C fl qs), .im (.tup (bt true rows)), .mu ((ya fl rows i ++ wN fl rows i j ++ vJ fl rows i j k).map tD), .im (.int (0+(i:Int))), .im (.int (0+(j:Int))), .im (.int (1+(k:Int))), .im (tD (tj i j k))] _;refine WS.one (W1.ite (cg.val (ar.call G2 hr (aP nx) rfl (fl,qs,rows,tj i j k) (aU.cons (nm 0 rfl rfl) (aU.cons (nm 1 rfl rfl) (aU.cons (nm 6 rfl rfl) aU.nil))) hg.le rfl)) (fun h=> ?_) fun h=>WS.nil ?_)
     ·refine WS.one (W1.append (i:=2) rfl (.inl rfl) rfl (nm 6 rfl rfl) (by rw [ae,aq,aq]; omega) ?_ ⟨rfl,rfl,rfl,rfl⟩);have e:(ya fl rows i ++ wN fl rows i j ++ vJ fl rows i j (k+1)).map tD=(ya fl rows i ++ wN fl rows i j ++ vJ fl rows i j k).map tD ++ [tD (tj i j k)]:=by
       rw [nz,if_pos h, <-aO,bw (l₂:= [tj i j k])];rfl
      exact⟨_,_,by rw [e]; rfl⟩
     ·dsimp only;rw [nz,if_neg (by rw [h]; exact aG),bz];exact⟨_,_,rfl⟩
    ·rintro ρ ⟨c,d,rfl⟩;rw [f_];dsimp only;rw [uP, <-aO];exact⟨_,_,_,rfl⟩
   ·rintro ρ ⟨b,c,d,rfl⟩;rw [f_];dsimp only;rw [uN];exact⟨_,_,_,_,rfl⟩
  ·rintro ρ ⟨a,b,c,d,rfl⟩;rw [f_];exact WS.freeze (i:=2) rfl (WS.one (W1.ret (nm 2 rfl rfl) rfl))
 ·refine .inr ⟨CS,if_neg O8, ?_⟩;change f7 _ [.im (g9 C fl qs), .im (.tup (bt true rows)), .un, .un, .un, .un, .un] E (bo uL) CS;exact f7.here (vW.expr (IF.call (i:=(fl,qs,rows)) GX hr lg rfl (aU.cons (nm 0 rfl rfl) (aU.cons (nm 1 rfl rfl) aU.nil)) ⟨hS,sm⟩ (if_neg O8)))
end
def bk(t:jf):jf:=(t.2.1,t.1,t.2.2)
theorem nY{rows:Rows}{v:Int}{r:List Int}(h0:0<=v)(h:v < rows.length):rowAt (rows.set v.toNat r) v=r:=by
 unfold rowAt;rw [aS,eZ,if_pos rfl,if_pos (by omega)];rfl
theorem xx{rows:Rows}{i:Nat}{v:Int}{r:List Int}(h:i≠v.toNat):rowAt (rows.set i r) v=rowAt rows v:=by
 unfold rowAt;rw [aS,eZ,if_neg h,aS]
theorem zL{f:c5}{rows:Rows}{t:jf}(hg:good f rows=true)(h:isLet f rows t=true):isLet f (mv rows t) (bk t)=true/\mv (mv rows t) (bk t)=rows:=by
 have hl:=dS hg;have hc:Kt f rows t:=kq.mp (by unfold isLet at h; rw [bN]at h; exact h.1);obtain⟨a0,a1,b0,b1,ne,n1,nl,nr⟩:=hc;obtain⟨a,b,n⟩:=t;dsimp only at a0 a1 b0 b1 ne n1 nl nr;have ha:a < rows.length:=by omega
 have hb:b < rows.length:=by omega
 have ja:a.toNat≠b.toNat:=by omega
 have eR:mv rows (a,b,n)=(rows.set a.toNat ((rowAt rows a).take ((rowAt rows a).length - n.toNat))).set b.toNat (rowAt rows b ++ (rowAt rows a).drop ((rowAt rows a).length - n.toNat)):=rfl;have e1:rowAt (mv rows (a,b,n)) b=rowAt rows b ++ (rowAt rows a).drop ((rowAt rows a).length - n.toNat):=by
  rw [eR];exact nY b0 (by rw [bF]; exact hb)
 have e2:rowAt (mv rows (a,b,n)) a=(rowAt rows a).take ((rowAt rows a).length - n.toNat):=by
  rw [eR,xx ja.symm,nY a0 ha]
 have l1:(rowAt (mv rows (a,b,n)) b).length - n.toNat=(rowAt rows b).length:=by
  rw [e1,aq,bq];omega
 have e3:mv (mv rows (a,b,n)) (bk (a,b,n))=rows:=by
  show(((mv rows (a,b,n)).set b.toNat ((rowAt (mv rows (a,b,n)) b).take ((rowAt (mv rows (a,b,n)) b).length - n.toNat))).set a.toNat (rowAt (mv rows (a,b,n)) a ++ (rowAt (mv rows (a,b,n)) b).drop ((rowAt (mv rows (a,b,n)) b).length - n.toNat)))=rows;rw [l1,e1,e2,List.take_left,List.drop_left,ba,eR,List.set_set,List.set_comm _ _ ja,List.set_set,qJ (jk b0 hb),qJ (jk a0 ha)]
 refine⟨?_,e3⟩;unfold isLet;rw [e3,hg,gS];refine kq.mpr ⟨b0,b1,a0,a1,fun z=>ne z.symm,n1,nl, ?_⟩;show n<=((rowAt (mv rows (a,b,n)) b).length:Int);rw [e1,aq,bq];omega
abbrev rT(rows:Rows):D:= .tup (bt true rows)
theorem yx(n:Nat)(t:jf):D.flat (n+1) (tD t):=fun d hd=>by
 have:d= .int t.1\/d= .int t.2.1\/d= .int t.2.2:=by simpa [tD]using hd
 rcases this with rfl | rfl | rfl <;> (cases n <;> exact cB)
theorem uK(n:Nat)(l:List jf): ∀d∈l.map tD,D.flat (n+1) d:=fun d hd=>by
 obtain⟨t,_,rfl⟩:=aE.mp hd;exact yx n t
theorem oA(n:Nat)(l:List Int):D.flat (n+1) (.lst (l.map .int)):=fun d hd=>by
 obtain⟨i,_,rfl⟩:=aE.mp hd;cases n <;> exact cB
theorem Lz{d:D}{ds:List D}(h:d∈ds)(hf:D.flat 60 d):inD d ds=true:=by
 unfold inD;rw [List.any_eq_true];exact⟨d,h,jS hf⟩
theorem tR(ns:List Int)(first:Nat): ∀k,(gP ns first 5 k).all qH=true
 | 0=>rfl
 | k+1=>by
  have ih:=tR ns first k;unfold gP;dsimp only
  split
  ·exact ih
  ·rename_i ja;rw [wz,ih,iR];simp only [List.all_cons,List.all_nil,gS];unfold qH kn;dsimp only;have h1:=iW (cellAt ns (first+1+k)) (show((5:Nat):Int)≠0 by decide);have h2:=gK (cellAt ns (first+1+k)) (show(0:Int) < ((5:Nat):Int) by decide);have h3:=iW (cellAt ns (first+1+k) / ((5:Nat):Int)) (show((5:Nat):Int)≠0 by decide);have h4:=gK (cellAt ns (first+1+k) / ((5:Nat):Int)) (show(0:Int) < ((5:Nat):Int) by decide);rw [decide_eq_true h1,decide_eq_true h3,decide_eq_false ja,decide_eq_true (by omega),decide_eq_true (by omega)];rfl
theorem Mr(ns:List Int):qm (u4 ns 0 5):=by
 refine⟨?_, ?_, ?_, ?_,tR ns 0 _⟩
 ·show 2<=2+_ % 3/\2+_ % 3<=4;omega
 ·show 1<=1+_ % 6/\1+_ % 6<=6;omega
 ·show 1<=1+_ % 3/\1+_ % 3<=3;omega
 ·have:=nD ns 0 5 (cellAt ns 0 / 72 % 5).toNat;have h2:(cellAt ns 0 / 72 % 5).toNat<=20:=by omega
  exact bg this h2
section
variable {P:aH}{w:aW}{K:Frag}{mg:Str->Option af}{base:aY}{CX:k_}{C:ai}
theorem zT:bM ["standing","found","stack"] ["standing"] (aL sT):=l8
variable (P w K mg base CX)in
abbrev yt:Prop:=
 j6 P w K mg base CX 1 "_law_crates" (fun rows:Rows=> [rT rows]) (fun rows=>rows.flatten.length < 64) (fun rows=> .ok (.lst ((o_ rows.flatten).map .int)))
theorem Ey{f:ai}{fd:bb}(B:Bm mg)(F:ji K "_law_crates" "_law_crates" sT f fd)(hm:mg "_law_crates"=some (.ref f))(hb:Binds K fd ["standing"] []):yt P w K mg base CX:=by
 refine eu F zT hm hb (fun i=>rfl) fun dX A outer s H E rows M0 hp hr=>⟨_,rfl, ?_⟩;have qU:rows.flatten.length < 64:=hp;have px:=zT.nd;have hlen:(bt true rows).length=rows.length:=ae ..;change WS _ M0 H (bo sT) [.im (rT rows), .un, .un] _;refine WS.cons (W1.setF (i:=1) px rfl (.inl rfl) (fz rfl) (dF.lst aU.nil) ?_);refine WS.cons (W1.for (ds:=bt true rows) (fun i ρ=> ∃a,ρ= [.im (rT rows), .mu ((rows.take i).flatten.map .int),a]) bu rfl (iU.tup (nm 0 rfl rfl)) ⟨_,by rw [h_]; rfl⟩ ?_ ?_)
 ·rintro i d ρ hd ⟨a,rfl⟩;obtain⟨r,pF,rfl⟩:=fG hd;have l1:=jI rows i;have l2:=mx (aR pF);refine⟨_,sW.name (i:=2) px rfl (.inl rfl) (fz rfl), ?_⟩;refine WS.one (W1.extend (i:=1) (fs:=r.map .int) rfl (.inl rfl) rfl (dF.toD (dF.listS (t:=true) rfl B.list (nm 2 rfl rfl))) rfl (by rw [ae,ae]; omega) ?_ ⟨rfl,rfl,rfl,rfl⟩);dsimp only;rw [oU pF,bw];exact⟨_,rfl⟩
 rintro ρ ⟨a,rfl⟩;rw [hlen,df];exact WS.one (W1.ret (dF.toD (dF.sortedI rfl B.sorted (zr 1 rfl rfl) qU)) rfl)
end
end K
namespace Z
open PySem PySem.Spec PyProof.Rows L2
section
variable {K:Frag}{M M':MP}{H H':Hp}{a b:ai}{ob:Obj}{xs:List (Int×ai×Int)}
theorem Ii{ys:List V}(ha:H a=some (jZ a ob xs))(h:k9 K H b ys):k9 K (eV H a) b ys:=by
 rcases h with(h | ⟨o,h⟩) | h
 ·exact .inl (.inl (jN (fun z=>by rw [z,ha]at h; cases h) h))
 ·exact .inl (.inr ⟨o,jN (fun z=>by rw [z,ha]at h; cases h) h⟩)
 ·exact .inr h
theorem Dn.hideB(ha:H a=some (jZ a ob xs)): ∀(n:Nat) {d:D} {v:V},D.bare n d->Dn K M H d v->Dn K M' (eV H a) d v:=by
 intro n
 induction n with
 | zero=>intro d v hf h; cases d <;> first | exact h | exact hf.elim
 | succ n ih=>
  intro d v hf h;cases d with
  | tup ds=>
   obtain⟨c,ys,e,s,r⟩:=h;exact⟨c,ys,e,Ii ha s,cU.map1 (fun d hd v=>ih (hf d hd)) r⟩
  | ins C ns ds=>
   obtain⟨c,dx,fs,e,s,hn,r⟩:=h;exact⟨c,dx,fs,e,jN (fun z=>by rw [z,ha]at s; cases s) s,hn,cU.map1 (fun d hd v=>ih (hf d hd)) r⟩
  | non=>exact h
  | bl _=>exact h
  | int _=>exact h
  | str _=>exact h
  | _=>exact hf.elim
theorem Dn.hideL(ha:H a=some (jZ a ob xs)){ds:List D}{v:V}(hb: ∀d∈ds,D.bare 9 d)(h:Dn K M H (.lst ds) v):Dn K M (eV H a) (.lst ds) v:=by
 obtain⟨c,ys,e,s,r⟩:=h;refine⟨c,ys,e, ?_,cU.map1 (fun d hd v=>Dn.hideB ha 9 (hb d hd)) r⟩
 rcases s with⟨s | ⟨o,s⟩,m⟩ | s
 ·exact .inl ⟨.inl (jN (fun z=>by rw [z,ha]at s; cases s) s),m⟩
 ·exact .inl ⟨.inr ⟨o,jN (fun z=>by rw [z,ha]at s; cases s) s⟩,m⟩
 ·exact .inr s
theorem Ao{l:ai}{o:HO}(h:l≠a):eV (upd H l o) a=upd (eV H a) l o:=by
 funext b
 unfold eV upd
 by_cases h1:b=a
 ·rw [if_pos h1]
  by_cases h2:b=l
  ·exact absurd (h2.symm.trans h1) h
  ·rw [if_neg h2]; exact(if_pos h1).symm
 ·rw [if_neg h1]
  by_cases h2:b=l
  ·rw [if_pos h2,if_pos h2]
  ·rw [if_neg h2,if_neg h2]; exact(if_neg h1).symm
theorem nS{o:HO}:eV (upd H a o) a=eV H a:=by
 funext b
 unfold eV upd
 by_cases h1:b=a
 ·rw [if_pos h1,if_pos h1]
 ·rw [if_neg h1,if_neg h1,if_neg h1]
end
abbrev kD(kv:o4):List D:=kv.map fun x=>f9 x.1
structure cW(X:Cx)(M0:MP)(H0:Hp)(γ:List (D×V))(α:Nat->ai)(ρ:fB)(σ:St)(H:Hp)(i:Nat)(a:ai)(kv:o4):Prop where
 r:Rep X.K M0 H0 γ α ρ σ (eV H a)
 un:ρ[i]? =some .un
 at_:σ[i]? =some (some (.ref a))
 nd:(kv.map (·.1)).Nodup
 ex: ∃bs:List ai,bs.length=kv.length/\(∃o,H a=some (jZ a o (qD (kD kv) bs (kv.map (·.2)))))/\cU X.K (MM M0 ρ α) (eV H a) (kD kv) (bs.map V.ref)
section
variable {X:Cx}{ρ:fB}{M0:MP}{H0 H H':Hp}{γ:List (D×V)}{α:Nat->ai}{σ:St}{En:Ends}{ny s1 s2 body:List cF}{e c:Expr}{d:D}{ds:List D}{pos pos' p p1 p2 p3:Pos}{i j t:Nat}{x:Str}{a:ai}{kv:o4}
theorem cW.lt(B:cW X M0 H0 γ α ρ σ H i a kv):i < ρ.length:=(aB.mp B.un).1
theorem cW.next(B:cW X M0 H0 γ α ρ σ H i a kv)(s:bQ H H'):cW X M0 H0 γ α ρ σ H' i a kv:=by
 obtain⟨bs,h1,h2,h3⟩:=B.ex;exact⟨B.r.next (oH s),B.un,B.at_,B.nd,bs,h1,h2.imp fun _ q=>s _ _ q,h3.same (oH s)⟩
theorem cW.view(B:cW X M0 H0 γ α ρ σ H i a kv):Rep X.K M0 H0 γ α (ρ.set i (.im (oI kv))) σ H:=by
 obtain⟨bs,h1,h2,h3⟩:=B.ex;exact(B.r.next fH).view B.lt B.at_ ⟨a,bs,rfl,h2.imp fun _ z=>⟨fun _ q=>(nomatch q),z⟩,by rw [h1,ae],by rw [ae,ae],h3.same fH⟩
theorem cW.obj(B:cW X M0 H0 γ α ρ σ H i a kv): ∃o xs,H a=some (jZ a o xs):=let⟨_,_,⟨_,h⟩,_⟩:=B.ex; ⟨_,_,h⟩
theorem cW.unghost{q:D×V}(B:cW X M0 H0 (q::γ) α ρ σ H i a kv):cW X M0 H0 γ α ρ σ H i a kv:=⟨B.r.unghost,B.un,B.at_,B.nd,B.ex⟩
theorem cW.put_im(B:cW X M0 H0 γ α ρ σ H i a kv)(hj:j < ρ.length)(FL:j≠i){v:V}(h:Dn X.K (MM M0 ρ α) (eV H a) d v):cW X M0 H0 γ α (ρ.set j (.im d)) (σ.set j (some v)) H i a kv:=by
 obtain⟨bs,h1,h2,h3⟩:=B.ex;exact⟨B.r.set_im hj h,by rw [eQ FL.symm]; exact B.un,by rw [eQ FL.symm]; exact B.at_,B.nd,bs,h1,h2,h3.less fun b z=>l0 (fun _ q=>by cases q) z⟩
theorem cW.set(B:cW X M0 H0 γ α ρ σ H i a kv)(hN:X.N.Nodup)(hj:X.N[j]? =some x)(hx:Loc X.env.scope x)(hl:j < ρ.length)(FL:j≠i)(h:ar X (ρ.set i (.im (oI kv))) e d)(hb:D.bare 9 d)
  (k: ∀v H',cW X M0 H0 γ α (ρ.set j (.im d)) (σ.set j (some v)) H' i a kv->mi X ny En (σ.set j (some v)) H')
  (hs:cu e (some (.Name x pos')) pos.line X.env=pure false:=by rfl)(hf:X.fn x=true\/X.env.scope.names.lookup x=some .local:=by first | exact .inl rfl | exact .inr rfl | assumption):mi X (.Assign [.Name x pos'] e pos::ny) En σ H:=
 (dh rV gr).to ((nB hN hj hx iE hs hf).to (h M0 H0 γ α σ H _ B.view fun v H1 s1 dn=>by
  have D1:=B.next s1;obtain⟨_,xs,ho⟩:=D1.obj;exact k v H1 (D1.put_im hl FL (Dn.hideB ho 9 hb dn))))
theorem cW.ite{b:Bool}(B:cW X M0 H0 γ α ρ σ H i a kv)(h:cg X (ρ.set i (.im (oI kv))) c b)(k1:b=true-> ∀H',cW X M0 H0 γ α ρ σ H' i a kv->mi X s1 En σ H')(k2:b=false-> ∀H',cW X M0 H0 γ α ρ σ H' i a kv->mi X s2 En σ H'):tS X (.If c s1 s2 pos) En σ H:=
 (DS IC gr gr).to (h M0 H0 γ α σ H _ B.view fun H1 s1=>by
  cases e:b with
  | true=>exact vU (k1 e H1 (B.next s1))
  | false=>exact uE (k2 e H1 (B.next s1)))
theorem cW.append(B:cW X M0 H0 γ α ρ σ H i a kv)(hj:X.N[j]? =some x)(hv:yn X.env.scope x)(FL:j≠i)(qT:ρ[j]? =some (.mu ds))(hlen:ds.length < 1000000)(h:ar X (ρ.set i (.im (oI kv))) e d)(hb:D.bare 9 d)
  (k: ∀H',cW X M0 H0 γ α (ρ.set j (.mu (ds ++ [d]))) σ H' i a kv->En.nx σ H')(mc:N7 X (.Name x p1) "append" e p2 p3)(hd:(x==("__debug__":Str))=false:=by decide)(kc:(x==("__classdict__":Str))=false:=by decide)
  (CV:cu (.Call (.Attribute (.Name x p1) "append" p2) [e] [] p3) none pos.line X.env=pure false:=by rfl):tS X (.Expr (.Call (.Attribute (.Name x p1) "append" p2) [e] [] p3) pos) En σ H:=by
 obtain⟨a1,a2,xs,a3,a4⟩:=B.r.mu j ds qT;have MC:α j≠a:=fun z=>by rw [z,qz]at a3; cases a3
 refine Qf hj hv B.view a2 (fH _ _ a3) (by rw [a4.len]; exact hlen) h (fun H1 v s1 dn=>k _ ?_) mc hd kc CV;have D1:=B.next s1;obtain⟨_,ys,ho⟩:=D1.obj;obtain⟨_,_,zs,b3,b4⟩:=D1.r.mu j ds qT;have e3:zs=xs:=by
  have h1:=fH _ _ b3;have h2:=s1 _ _ (fH _ _ a3);rw [h1]at h2;cases h2;rfl
 subst e3;have FH:Dn X.K (MM M0 ρ α) (eV H1 a) d v:=Dn.hideB ho 9 hb dn;obtain⟨bs,q1,q2,q3⟩:=D1.ex;have R:=D1.r.upd_mu qT (b4.app (cU.one FH));have kp:q8 (MM M0 ρ α) (eV H1 a) (upd (eV H1 a) (α j) (.lst (zs ++ [v]))):=fun b o e n=>by
  by_cases hb:b=α j
  ·subst hb;rw [b3]at e;cases e;exact absurd (.inr ⟨j,ds,qT,rfl⟩) (n _ rfl)
  ·rw [b8 hb]; exact e
 refine⟨by rw [Ao MC]; exact R,by rw [eQ FL.symm]; exact D1.un,D1.at_,D1.nd,bs,q1,q2.imp fun _ q2=>by rw [b8 MC.symm]; exact q2, ?_⟩;rw [Ao MC];refine(q3.keep kp).less fun b z=> ?_
 rcases z with z | ⟨m,es,e,z⟩
 ·exact .inl z
 ·rcases get_set e with⟨rfl,q⟩ | ⟨_,q⟩
  ·exact .inr ⟨m,ds,qT,z⟩
  ·exact .inr ⟨m,es,q,z⟩
theorem cW.for(I:Nat->fB->o4->Prop)(hp:vz (aC X.prog X.w) X.A X.env X.xe)(hc:X.calm=true)(hN:X.N.Nodup)(ht:X.N[t]? =some x)(hx:Loc X.env.scope x)(ZG:t≠i)(B:cW X M0 H0 γ α ρ σ H i a kv)(hs:ar X (ρ.set i (.im (oI kv))) e (.lst ds))(hb: ∀d∈ds,D.bare 9 d)(h0:I 0 ρ kv)(fj: ∀n ρ kv,I n ρ kv->t < ρ.length)
  (turn: ∀(Gf:List (D×V)) (n:Nat) (d:D) (α:Nat->ai) (ρ:fB) (σ:St) (H:Hp) (kv:o4),ds[n]? =some d->I n ρ kv->cW X M0 H0 Gf α (ρ.set t (.im d)) σ H i a kv->mi X body {En with nx:=fun σ H=> ∃α ρ kv,cW X M0 H0 Gf α ρ σ H i a kv/\I (n+1) ρ kv,ct:=fun σ H=> ∃α ρ kv,cW X M0 H0 Gf α ρ σ H i a kv/\I (n+1) ρ kv,bk:=En.nx} σ H)
  (done: ∀α ρ σ H kv,I ds.length ρ kv->cW X M0 H0 γ α ρ σ H i a kv->En.nx σ H)(hf: ∀x,fW e X.env x=pure x:=by intro _; rfl)(RZ:X.fn x=true\/X.env.scope.names.lookup x=some .local:=by first | exact .inl rfl | exact .inr rfl | assumption):tS X (.For (.Name x p) e body [] pos) En σ H:=by
 refine(Jw hp hc (Dx iE) V_ gr hf).to (hs M0 H0 γ α σ H _ B.view fun v H1 s1 dn=> ?_);have D1:=B.next s1;obtain⟨_,ys,ho⟩:=D1.obj;have FH:Dn X.K (MM M0 ρ α) (eV H1 a) (.lst ds) v:=(Dn.hideL ho hb dn).less fun b z=>by
  rcases z with z | ⟨m,es,e,z⟩
  ·exact .inl z
  ·refine .inr ⟨m,es, ?_,z⟩;rw [eQ (fun q=>by rw [q,B.un]at e; cases e)];exact e
 obtain⟨l,xs,rfl,sq,dd⟩:=id FH;refine⟨l,rfl,⟨xs,fH.seq sq.l⟩,fun n m σ H=>m=ds.length - n/\n<=ds.length/\ ∃α ρ kv,cW X M0 H0 ((.lst ds, .ref l)::γ) α ρ σ H i a kv/\I n ρ kv,⟨ds.length,by simp,bK _,α,ρ,kv,⟨D1.r.ghost FH,D1.un,D1.at_,D1.nd,D1.ex⟩,h0⟩, ?_⟩;rintro n m KO H2 ⟨rfl,hn,FG,ρ2,kv2,D2,i2⟩;obtain⟨l',BA,el,J9,Gg⟩:=D2.r.gh _ dO;cases el
 by_cases hlt':n < ds.length
 ·refine .inr ⟨⟨BA,BA[n]'(by rw [Gg.len]; exact hlt'),fH.seq J9.l,ak _⟩,fun fA H'=> ∃α ρ kv,cW X M0 H0 ((.lst ds, .ref l)::γ) α ρ fA H' i a kv/\I (n+1) ρ kv,
   fun fA H' ⟨α',ma,pG,D',i'⟩=>⟨ds.length - (n+1),by omega,rfl,hlt',α',ma,pG,D',i'⟩,fun y H' hy=> ?_⟩
  obtain⟨e,hy⟩:=hy;subst e;obtain⟨d,BB,dd⟩:=Gg.getV (hy BA (fH.seq J9.l));refine(sL hN ht hx RZ).to ?_;exact turn _ n d FG ρ2 _ _ kv2 BB i2 (D2.put_im (fj n ρ2 kv2 i2) ZG dd)
 ·have e:n=ds.length:=by omega
  subst e;exact .inl ⟨⟨BA,fH.seq J9.l,by rw [Gg.len]; exact ay _⟩,done FG ρ2 KO H2 kv2 i2 D2.unghost⟩
theorem cW.while(I:fB->o4->Prop)(μ:fB->o4->Nat)(hp:vz (aC X.prog X.w) X.A X.env X.xe)(B:cW X M0 H0 γ α ρ σ H i a kv)(h0:I ρ kv)
  (turn: ∀(α:Nat->ai) (ρ:fB) (σ:St) (kv:o4),I ρ kv-> ∃b,cg X (ρ.set i (.im (oI kv))) c b/\(b=true-> ∀H,cW X M0 H0 γ α ρ σ H i a kv->mi X body {En with nx:=fun σ H=> ∃α ma pG,cW X M0 H0 γ α ma σ H i a pG/\I ma pG/\μ ma pG < μ ρ kv,ct:=fun σ H=> ∃α ma pG,cW X M0 H0 γ α ma σ H i a pG/\I ma pG/\μ ma pG < μ ρ kv,bk:=En.nx} σ H)/\(b=false-> ∀H,cW X M0 H0 γ α ρ σ H i a kv->En.nx σ H)):tS X (.While c body [] pos) En σ H:=by
 refine(zq hp IC gr).to ⟨fun m σ H=> ∃α ρ kv,cW X M0 H0 γ α ρ σ H i a kv/\I ρ kv/\μ ρ kv=m,⟨μ ρ kv,α,ρ,kv,B,h0,rfl⟩, ?_⟩;rintro m KO H2 ⟨FG,ρ2,kv2,D2,i2,rfl⟩;obtain⟨b,h1,h2,h3⟩:=turn FG ρ2 KO kv2 i2;refine h1 M0 H0 γ FG KO H2 _ D2.view fun H3 s=> ?_;cases e:b with
 | true=>exact vU ⟨fun σ H=> ∃α ma pG,cW X M0 H0 γ α ma σ H i a pG/\I ma pG/\μ ma pG < μ ρ2 kv2,fun fA H' ⟨α',ma,pG,D',i',l'⟩=>⟨_,l',α',ma,pG,D',i',rfl⟩,h2 e H3 (D2.next s)⟩
 | false=>exact uE (h3 e H3 (D2.next s))
end
theorem AD: ∀{xs:List (Int×ai×Int)} {es:List eN} {x:Int×ai×Int} {e:eN},oV xs es->(∃t,e=⟨x.1, .ref x.2.1,valN x.2.2 t⟩)->oV (xs ++ [x]) (es ++ [e])
 | [], [],_,_,_,h=>⟨h,trivial⟩
 | [],_::_,_,_,h,_=>h.elim
 | _::_, [],_,_,h,_=>h.elim
 | _::_,_::_,_,_,h,q=>⟨h.1,AD h.2 q⟩
theorem u6: ∀ks:List D,(jo ks).length=ks.length
 | []=>rfl
 | k::ks=>by show(jo ks).length+1=_; rw [u6 ks]; rfl
theorem uu: ∀(a b:List D),jo (a ++ b)=jo a ++ jo b
 | [],b=>rfl
 | k::a,b=>by rw [nq]; show qx k::jo (a ++ b)=_; rw [uu a b]; rfl
theorem E3{ks:List D}{bs:List ai}{ns:List Int}{k:D}{b:ai}{n:Int}(h1:bs.length=ks.length)(h2:ns.length=ks.length):qD (ks ++ [k]) (bs ++ [b]) (ns ++ [n])=qD ks bs ns ++ [(qx k,b,n)]:=by
 unfold qD;rw [uu,List.zip_append (by omega),List.zip_append (by rw [u6,cw]; omega)];rfl
section
variable {X:Cx}{ρ:fB}{M0:MP}{H0 H H':Hp}{γ:List (D×V)}{α:Nat->ai}{σ:St}{En:Ends}{ny:List cF}{k v e o i':Expr}{tk tv td:TE}{d:D}{pos pos' p p1 p2 p3:Pos}{i j:Nat}{x y:Str}{a:ai}{kv:o4}{rs:gH}{n:Int}
theorem HX(hu:X.A.units+8 < cLine)(hk:PE X k tk)(hv:PE X v tv):PE X (.Dict [some k] [v] pos) (fun σ H Q=> ∀a o,H a=none->tk σ (upd H a (jZ a o [])) fun x H1=>tv σ H1 fun y H2=> ∃M rs n b,x= .ref b/\y= .int n/\n≠ -1/\Dn X.K M H2 (f9 rs) (.ref b)/\H2 a=some (jZ a o [])/\ ∀o',Q (.ref a) (upd H2 a (jZ a o' [(qx (f9 rs),b,n)]))):=by
 intro pins s σ H Q I h;have hn:=I.fb.fresh (ay s.heap.objs.size);have big:gI < s.heap.objs.size:=by
  have h:cz < s.heap.objs.size:=(I.mod.glob.keeps I.bk).lt;exact jC (by decide) h
 have no:(s.heap.objs.size==gI)=false:=beq_eq_false_iff_ne.mpr (qi (aN big));have I1:=I.laid (a:=s.heap.objs.size) (o:=jZ s.heap.objs.size {cls:= .type "dict",data:= .dict #[]} []) (h':=s.heap.push {cls:= .type "dict",data:= .dict #[]}) (t':=s.toks) (fun _ _ q=>ah _ q) (ay _)
  ⟨⟨no, #[],0,aw _ rfl,⟨rfl,rfl,rfl⟩,rfl,trivial⟩,⟨_,aw _ rfl⟩,fun h1 h2 ⟨q1,es,ep,q2,q3⟩ kk=>⟨q1,es,ep,kk _ q2,q3⟩⟩
 refine Gu (knd:=kh X.prog X.w) (by show X.A.units+2 < cLine; omega) (fx (hk pins _ σ _ _ I1 (h _ _ hn)) fun pG s1 ⟨x,H1,J1,r1,q1⟩=>fx (hv pins s1 σ H1 _ J1 q1) fun vv s2 ⟨y,H2,J2,r2,M,rs,n,b,ex,ey,hn,dn,ho,q⟩=> ?_);subst ex ey;obtain⟨t,rfl⟩:=(show ∃t,vv=gR n t from r2);obtain⟨b',e1,e2,t2⟩:=rW J2 dn r1;cases e2;obtain⟨⟨_,es,ep,g1,g2,g3,g4⟩,_⟩:=(show fJ X.prog X.w H2 s2.heap s.heap.objs.size (jZ s.heap.objs.size _ [])from J2.fb _ _ ho);have ND:es.toList= []:=by
  cases h:es.toList with
  | nil=>rfl
  | cons e r=>rw [h]at g4; exact g4.elim
 refine⟨b,rs,e1,t2,⟨_,es,ep,g1,g2,g3,ND,fun _ hx=>absurd hx gB,qb⟩,fun h' dd sb=> ?_⟩;obtain⟨o2,SN,Vz,f1,f2,f3,f4,_,_⟩:=dd;refine⟨.ref s.heap.objs.size,_, ?_,rfl,q o2⟩;refine J2.write (x:=s.heap.objs.size) (e:=s.heap.objs.size) (by rw [ho]; exact cB) (.inl rfl) (fun b q hb z=>(sb.2 b hb).trans z) ⟨_,f1⟩ ⟨⟨no,SN,Vz,f1,f2,f3, ?_⟩,⟨_,f1⟩,fun h1 h2 ⟨q1,es,ep,q2,q3⟩ kk=>⟨q1,es,ep,kk _ q2,q3⟩⟩;rw [f4];refine⟨⟨t, ?_⟩,trivial⟩;show(⟨wW X.prog X.w rs,_,_⟩:eN)=_;rw [yw X.prog X.w,ux hn]
theorem cW.start(hu:X.A.units+8 < cLine)(R:Rep X.K M0 H0 γ α ρ σ H)(hN:X.N.Nodup)(hj:X.N[i]? =some x)(hx:Loc X.env.scope x)(hl:i < ρ.length)(hk:ar X ρ k (f9 rs))(hv:ar X ρ v (.int n))
  (kk: ∀a H',cW X M0 H0 γ α (ρ.set i .un) (σ.set i (some (.ref a))) H' i a [(rs,n)]->mi X ny En (σ.set i (some (.ref a))) H')
  (hs:cu (.Dict [some k] [v] p) (some (.Name x pos')) pos.line X.env=pure false:=by rfl)(hf:X.fn x=true\/X.env.scope.names.lookup x=some .local:=by first | exact .inl rfl | exact .inr rfl | assumption)(hn:n≠ -1:=by omega):mi X (.Assign [.Name x pos'] (.Dict [some k] [v] p) pos::ny) En σ H:=by
 refine(dh rV gr).to ((nB hN hj hx (HX hu iE iE) hs hf).to fun a o ha=>hk M0 H0 γ α σ _ _ (R.next (bJ ha)) fun u H1 s1 d1=>hv M0 H0 γ α σ H1 _ ((R.next (bJ ha)).next s1) fun w H2 s2 d2=> ?_);cases (show w= .int n from d2);obtain⟨b,ys,rfl,sq,dd⟩:=id d1;have ho:H2 a=some (jZ a o []):=s2 _ _ (s1 _ _ bI);refine⟨_,rs,n,b,rfl,rfl,hn,d1.same s2,ho,fun o'=>kk a _ ?_⟩;have sm:bQ H (eV (upd H2 a (jZ a o' [(qx (f9 rs),b,n)])) a):=fun c o e=>by
  rw [nS];have ja:c≠a:=fun z=>by rw [z,ha]at e; cases e
  exact jN ja (s2 _ _ (s1 _ _ ((bJ ha) _ _ e)))
 have dk:Dn X.K (MM M0 ρ α) (eV (upd H2 a (jZ a o' [(qx (f9 rs),b,n)])) a) (f9 rs) (.ref b):=by
  rw [nS];exact Dn.hideB ho 9 (iD 7 rs) (d1.same s2)
 refine⟨(R.next sm).forget,mz hl,mz (by rw [R.len]; exact hl),by simp, [b],rfl, ?_, ?_⟩
 ·exact⟨o',by rw [bI]; rfl⟩
 ·exact⟨_,_,rfl,dk.less fun c z=>l0 (fun _ q=>by cases q) z,rfl⟩
def Ol(n:Int):D:=if n= -1 then .bl true else .int n
def IE(n:Int):V:=if n= -1 then .bl true else .int n
theorem Ms{K:Frag}{M:MP}{H:Hp}{n:Int}{v:V}(h:Dn K M H (Ol n) v):v=IE n:=by
 unfold Ol at h;unfold IE
 by_cases e:n= -1
 ·rw [if_pos e]at h ⊢; exact h
 ·rw [if_neg e]at h ⊢; exact h
theorem IH{n:Int}{r:af}(h:RelV (IE n) r): ∃t,r=valN n t:=by
 unfold IE at h;unfold valN
 by_cases e:n= -1
 ·rw [if_pos e]at h;exact⟨0,by rw [if_pos e]; exact h⟩
 ·rw [if_neg e]at h;obtain⟨t,rfl⟩:=(show ∃t,r=gR n t from h);exact⟨t,by rw [if_neg e]⟩
theorem cW.putV(hu:X.A.units+8 < cLine)(B:cW X M0 H0 γ α ρ σ H i a kv)(hi:X.N[i]? =some x)(R0:yn X.env.scope x)(hk:ar X (ρ.set i (.im (oI kv))) k (f9 rs))(he:ar X (ρ.set i (.im (oI kv))) e (Ol n))(p8:rs∉kv.map (·.1))(iT:kv.length<=sizeLine)
  (kk: ∀H',cW X M0 H0 γ α ρ σ H' i a (kv ++ [(rs,n)])->En.nx σ H')(hs:cu e (some (.Subscript (.Name x p1) k pos')) pos.line X.env=pure false:=by rfl)(hd:(x==("__debug__":Str))=false:=by decide)(kc:(x==("__classdict__":Str))=false:=by decide):tS X (.Assign [.Subscript (.Name x p1) k pos'] e pos) En σ H:=by
 intro pins s I;refine wpAny_Assign_Subscript (fx (he M0 H0 γ α σ H (fun v H1=>bQ H H1/\v=IE n) B.view (fun v H1 s1 d1=>⟨s1,Ms d1⟩) pins s I) fun r og ⟨v,H1,I1,rv,s1,ev⟩=> ?_) hs;subst ev;obtain⟨t,rfl⟩:=IH rv;have B1:=B.next s1;refine fx ((lC hi R0 hd kc) pins og σ H1 (fun u H2=>u= .ref a/\H2=H1) I1 ⟨_,B1.at_,rfl,rfl⟩) fun u mY ⟨z,H2,I2,rz,ez,eH⟩=> ?_;subst ez eH;obtain rfl:u=au a:=rz;refine fx (hk M0 H0 γ α σ H2 (fun w H3=>bQ H2 H3/\Dn X.K (MM M0 (ρ.set i (.im (oI kv))) α) H3 (f9 rs) w) B1.view (fun w H3 s3 d3=>⟨s3,d3⟩) pins mY I2) fun w sj ⟨y,H3,I3,ry,s3,d3⟩=> ?_;have B2:=B1.next s3;obtain⟨bs,q1,q2,q3⟩:=B2.ex;obtain⟨ob,q2⟩:=q2;obtain⟨xs,dc⟩:=MW I3 B2.nd ⟨ob,q2⟩ q1 (q3.same fH);obtain⟨b,rfl,rfl,t2⟩:=rW I3 d3 ry;have hl:=dc.len;refine wpAny_setItem_heap (knd:=kh X.prog X.w) (hsz:=by omega) (by show X.A.in1.units+2 < cLine; rw [iB]; omega) t2 dc.d fun h' dd sb=> ?_;obtain⟨⟨no,es,ep,g1,g2,g3,g4⟩,_⟩:=(show fJ X.prog X.w H3 sj.heap a (jZ a ob _)from I3.fb a _ q2);rw [storedH_new (dc.miss p8)]at dd;obtain⟨o2,SN,Vz,f1,f2,f3,f4,_,_⟩:=dd;obtain⟨o3,PQ,ep3,e1,e2,e3,e4,_,_⟩:=dc.d;rw [g1]at e1;cases e1;rw [g3]at e3;cases e3;have Rg:oV (qD (kD (kv ++ [(rs,n)])) (bs ++ [b]) ((kv ++ [(rs,n)]).map (·.2))) SN.toList:=by
  have z1:kD (kv ++ [(rs,n)])=kD kv ++ [f9 rs]:=by unfold kD; rw [bw]; rfl
  have z2:(kv ++ [(rs,n)]).map (·.2)=kv.map (·.2) ++ [n]:=by rw [bw]; rfl
  rw [z1,z2,E3 (by rw [q1,ae]) (by rw [ae,ae]),f4,bw, <-e4];refine AD g4 ⟨t, ?_⟩;show(⟨wW X.prog X.w rs,_,_⟩:eN)=_;rw [yw X.prog X.w]
 have I4:Inv X pins σ (upd H3 a (jZ a o2 (qD (kD (kv ++ [(rs,n)])) (bs ++ [b]) ((kv ++ [(rs,n)]).map (·.2))))) {sj with heap:=h',toks:=sj.toks+(kh X.prog X.w).draws rs}:=
  I3.write (x:=a) (e:=a) (by rw [q2]; exact cB) (.inl rfl) (fun b q hb z=>(sb.2 b hb).trans z) ⟨_,f1⟩ ⟨⟨no,SN,Vz,f1,f2,f3,Rg⟩,⟨_,f1⟩,fun h1 h2 ⟨q1,es,ep,q2,q3⟩ kk=>⟨q1,es,ep,kk _ q2,q3⟩⟩
 refine⟨σ,_,I4,kk _ ⟨by rw [nS]; exact B2.r,B2.un,B2.at_, ?_,bs ++ [b], ?_,⟨_,bI⟩, ?_⟩⟩
 ·rw [bw,jA];refine⟨B2.nd,by simp,fun u hu w hw=> ?_⟩
  rcases aJ.mp hw with rfl
  rintro rfl;exact p8 hu
 ·rw [aq,aq,q1];rfl
 ·rw [nS];have z1:kD (kv ++ [(rs,n)])=kD kv ++ [f9 rs]:=by unfold kD; rw [bw]; rfl
  rw [z1,bw];exact q3.app (cU.one (Dn.hideB q2 9 (iD 7 rs) d3))
theorem cW.put(hu:X.A.units+8 < cLine)(B:cW X M0 H0 γ α ρ σ H i a kv)(hi:X.N[i]? =some x)(R0:yn X.env.scope x)(hk:ar X (ρ.set i (.im (oI kv))) k (f9 rs))(he:ar X (ρ.set i (.im (oI kv))) e (.int n))(p8:rs∉kv.map (·.1))(iT:kv.length<=sizeLine)
  (kk: ∀H',cW X M0 H0 γ α ρ σ H' i a (kv ++ [(rs,n)])->En.nx σ H')(hs:cu e (some (.Subscript (.Name x p1) k pos')) pos.line X.env=pure false:=by rfl)(hd:(x==("__debug__":Str))=false:=by decide)(kc:(x==("__classdict__":Str))=false:=by decide)(hn:n≠ -1:=by omega):tS X (.Assign [.Subscript (.Name x p1) k pos'] e pos) En σ H:=
 cW.putV hu B hi R0 hk (ar.to he (if_neg hn).symm) p8 iT kk hs hd kc
end
section
variable {prog:aH}{w:aW}{A:bA}{R:Result->aj->Prop}{s:aj}
theorem B5{elt target iter c:Expr}{scope:iF}{pos:Pos}{it acc:af}{env:Env}(I:Nat->aj->Prop)
  (turn: ∀n s,I n s->av (aC prog w) A (jb it) (fun r eK=>match r with
   | none=>R (.ok .next) eK
   | some v=>av (aC prog w) A (oX target it v) (fun _ cE=>av (aC prog w) A (lL target env v) (fun _ oh=>av (aC prog w) A (isTrue c env (bV c env)) (fun b JX=>if b=true then av (aC prog w) A (bV elt env) (fun y yU=>
     av (aC prog w) A (call (.builtin "list.append") [acc,y]) (fun _ JQ=> ∃m,m < n/\I m JQ) Ac yU) Ac JX else ∃m,m < n/\I m JX) Ac oh) Ac cE) Ac eK) Ac s)(n:Nat)(h:I n s):
  gj (aC prog w) A (.compLoop (.ListComp elt [⟨target,iter, [c],0⟩] scope pos) 0 it acc env) R s:=by
 refine codeAny_loop rfl I (fun n s hI=> ?_) n h;show av _ A ((compTurn (.ListComp elt [⟨target,iter, [c],0⟩] scope pos) 0 it acc env).onRaise (fun x=>do noteFrame x env; theTreesLotGoes x)) _ _ s;refine wpAny_noted ?_;rw [compTurn_list];refine aa (mL (aa (b_ (turn n s hI) (fun r eK h₁=> ?_) fun _ _ z=>z.elim)));cases r with
 | none=>exact ag h₁
 | some v=>
  refine aa (b_ h₁ (fun _ cE sk=> ?_) fun _ _ z=>z.elim);refine aa (b_ sk (fun _ oh yT=>aa ?_) fun _ _ z=>z.elim);rw [cJ];refine aa (aa (b_ yT (fun b JX Ek=>ag ?_) fun _ _ z=>z.elim));dsimp only;rw [eT];refine ag ?_;cases b with
  | true=>
   rw [if_pos rfl]at Ek ⊢;exact aa (aa (b_ Ek (fun y yU pj=>aa (b_ pj (fun _ JQ mJ=>ag (ag ⟨rfl,mJ⟩)) fun _ _ z=>z.elim)) fun _ _ z=>z.elim))
  | false=>
   rw [if_neg aG]at Ek ⊢;exact ag ⟨rfl,Ek⟩
end
structure P8(K:Frag)(M:MP)(H1:Hp)(ds:List D)(f:D->Bool)(el:D->D)(i:Nat)(D0:ai)(ys:List V)(H:Hp):Prop where
 same:bQ H1 H
 at_:H D0=some (.lst ys)
 dn:cU K (fun a=>M a\/a=D0) H (((ds.take i).filter f).map el) ys
section
variable {X:Cx}{pins:List (ai×Obj)}{σ:St}{H1:Hp}{cE:aj}{N':List Str}{js:List Nat}{scope:iF}{x:Str}{cl:List (Str×ai)}{px pos:Pos}{elt iter:Expr}{J:It}{fp:List ai}{it:ai}{tn:Nat->aY->Prop}
 {ds cs:List D}{gs:List (D×V)}{M:MP}{E:af->aj->Prop}{RR:af->ai->Result->aj->Prop}
theorem rM{c:Expr}{f:D->Bool}{el:D->D}(ok:dU X N' js scope x cl)(hc:X.calm=true)(FK:N'.Nodup)(I:Inv X pins σ H1 cE)(T:Turn X.prog X.w X.K (.Name x px) J fp it tn)(st:tn 0 cE.heap)(hf: ∀b∈fp,ko X pins H1 b)
  (hg: ∀p∈gs,Dn X.K M H1 p.1 p.2)(w:Walk X.K J ds gs)(hsz:ds.length<=1000000)(CN:Ip X.K M H1 σ js cs)(hM: ∀a,M a->H1 a≠none)
  (CP: ∀(C:ai) (s₀:aj) (H₀:Hp) (i:Nat) (d:D),ds[i]? =some d->cg (g_ X N' scope cl C s₀ H₀ fp pins) (jR d cs) c (f d))
  (rB: ∀(C:ai) (s₀:aj) (H₀:Hp) (i:Nat) (d:D),ds[i]? =some d->ar (g_ X N' scope cl C s₀ H₀ fp pins) (jR d cs) elt (el d))
  (U1: ∀(D0 C:ai) (m:Str->Option af) (s1:aj) (H:Hp) (ys:List V),Inv X pins σ H s1->s1.heap.Ns C m->ko X pins H C->H1 D0=none->bQ H1 H->H D0=some (.lst ys)->cU X.K (fun a=>M a\/a=D0) H ((ds.filter f).map el) ys->RR (.ref D0) C (.ok .next) s1):
  av (aC X.prog X.w) X.A (xr []) (fun acc oh=>av (aC X.prog X.w) X.A (newFunctionEnv scope X.env.globals cl [] X.env.qual none .none (some X.env)) (fun JY yU=>
   gj (aC X.prog X.w) X.A (.compStart (.ListComp elt [⟨.Name x px,iter, [c],0⟩] scope pos) 0 (.ref it) acc {JY with scope:=qj scope X.env}) (RR acc JY.locals) yU) E oh) E cE:=by
 refine bx (wpAny_newFunctionEnv ok.cell (by intro y hy; simp at hy) (fun h₁ pW p0=> ?_) ok.kind);dsimp only at pW p0 ⊢;have hD:H1 cE.heap.objs.size=none:=I.fresh;have I3:Inv X pins σ (upd H1 cE.heap.objs.size (.lst [])) {cE with heap:=cE.heap.push {cls:= .type "list",data:= .seq ([]:List af).toArray}}:=I.lnew (its:= []) (t':=cE.toks) (ys:= []) .nil (bK _);have Pj: ∀b∈fp, ∃o,cE.heap.get? b=some o:=fun b hb=>let⟨o,e,_⟩:=T.obj _ _ st b hb; ⟨o,e⟩;have RU: ∀b∈fp,b < cE.heap.objs.size:=fun b hb=>let⟨o,e⟩:=Pj b hb; az e;have CW: ∀b∈fp,ko X pins (upd H1 cE.heap.objs.size (.lst [])) b:=fun b hb=>⟨by rw [b8 (aN (RU b hb))]; exact(hf b hb).1,(hf b hb).2⟩;generalize hH2:cE.heap.push {cls:= .type "list",data:= .seq ([]:List af).toArray}=H2 at I3 pW p0 ⊢;have VO:H2.objs.size=cE.heap.objs.size+1:=by rw [<-hH2,c8]
 have RV: ∀b∈fp,b < H2.objs.size:=fun b hb=>by rw [VO]; exact cZ (RU b hb)
 have k1: ∀b o,H2.get? b=some o->h₁.get? b=some o:=fun b o e=>p0.extBut b o (aN (az e)) (ah _ e);have k2: ∀b o,cE.heap.get? b=some o->h₁.get? b=some o:=fun b o e=>k1 b o (by rw [<-hH2]; exact ah _ e);have I4:=ok.inv (tk:=cE.toks+([]:List (Str×af)).length) I3 CW RV pW k1;have MF:tn 0 h₁:=T.keep _ _ _ st fun b hb o e=>k2 b o e;generalize hX:g_ X N' scope cl H2.objs.size {cE with heap:=H2} (upd H1 cE.heap.objs.size (.lst [])) fp pins=X' at I4;have Px: ∀(H:Hp),(∀b∈fp,H b=none)-> ∀b∈fp,ko X' [] H b:=fun H hn b hb=>by
  subst hX;refine⟨hn b hb,aN (RV b hb),sV I3 (CW b hb).2.1 (CW b hb).2.2.1, .inl hb,fun y c e=>(CW b hb).2.2.2.2.1 y c (ok.sub y c e),fun p hp=> ?_⟩;have z:p∈(X.pn ++ pins) ++ []:=hp;rw [bz]at z;exact(CW b hb).2.2.2.2.2 p z
 have out: ∀(H:Hp) (s1:aj) (fA:St),Inv X' [] fA H s1->Inv X pins σ H s1/\ko X pins H H2.objs.size:=fun H s1 fA J=>by
  subst hX;exact ok.out I3 CW J
 have O0: ∀(i:Nat) (d:D),ds[i]? =some d->ar X' (jR d cs) elt (el d):=fun i d h1=>by
  subst hX;exact rB _ _ _ i d h1
 have Vp: ∀(i:Nat) (d:D),ds[i]? =some d->cg X' (jR d cs) c (f d):=fun i d h1=>by
  subst hX;exact CP _ _ _ i d h1
 have wo:X'.env=compEnvC scope cl H2.objs.size X.env:=by rw [<-hX]; rfl
 have N0:X'.N=N':=by rw [<-hX]; rfl
 have p1:X'.prog=X.prog:=by rw [<-hX]; rfl
 have p2:X'.w=X.w:=by rw [<-hX]; rfl
 have p3:X'.K=X.K:=by rw [<-hX]; rfl
 have p4:X'.calm=true:=by rw [<-hX]; exact hc
 have p5:X'.A=X.A:=by rw [<-hX]; rfl
 have p6:X'.xe=Ac:=by rw [<-hX]; rfl
 clear hX;obtain⟨r0,VM,Vf,hr⟩:=ok.hN;have Vu:X'.N[0]? =some x:=by rw [N0,VM]; rfl
 have JR:X'.env.scope.names.lookup x=some .local:=by rw [wo]; exact lookup_relabel_local ok.own
 have VJ: ∀a,(M a\/a=cE.heap.objs.size)-> ∀H,bQ H1 H->(∃ys,H cE.heap.objs.size=some (.lst ys))->H a≠none:=fun a ha H sm Vn z=>by
  rcases ha with ha | rfl
  ·exact hM a ha (sm.free z)
  ·obtain⟨ys,e⟩:=Vn;rw [z]at e; cases e
 have loop: ∀oh:aj,oh={cE with heap:=h₁,toks:=cE.toks+([]:List (Str×af)).length}->
   gj (aC X.prog X.w) X.A (.compLoop (.ListComp elt [⟨.Name x px,iter, [c],0⟩] scope pos) 0 (.ref it) (.ref cE.heap.objs.size) (compEnvC scope cl H2.objs.size X.env)) (RR (.ref cE.heap.objs.size) H2.objs.size) oh:=by
  intro oh PQ;refine B5 (fun n s'=> ∃(i:Nat) (ys:List V) (H:Hp) (fA:St),n=ds.length - i/\i<=ds.length/\Inv X' [] fA H s'/\(∃ov,fA=ov::(Oo σ js).tail)/\tn i s'.heap/\(∀b∈fp,H b=none)/\P8 X.K M H1 ds f el i cE.heap.objs.size ys H) ?_ ds.length
   ⟨0, [],_,_,rfl,bK _,by rw [PQ]; exact I4,⟨none,rfl⟩,by rw [PQ]; exact MF,fun b hb=>(CW b hb).1,bJ hD,bI,by rw [h_]; exact rfl⟩
  rintro n s' ⟨i,ys,H,fA,rfl,hi,Iv,⟨ov,eσ⟩,sti,fri,ci⟩;have VD: ∀p∈gs,Dn X.K (fun a=>M a\/a=cE.heap.objs.size) H p.1 p.2:=fun p hp=>((hg p hp).re fun a m=>m.elim .inl fun z=> .inr (by rw [z]; exact hD)).same ci.same;obtain⟨w1,w2⟩:=w _ H VD;have item:=T.item X' p1 p2 p3 p4 i [] s' fA H Ac Iv (Px H fri) sti;have done:=T.done X' p1 p2 p3 p4 i [] s' fA H Ac Iv (Px H fri) sti;rw [p5]at item done
  by_cases fj:i < ds.length
  ·obtain⟨g1,g2⟩:=w1 i ds[i] (ak fj);refine fx (item g1) fun r s4 ⟨u,pF,h4⟩=> ?_;subst pF;refine fx h4 fun _ s5 ⟨y,H5,I5,r5,y5,st5,fr5⟩=> ?_;obtain⟨Nl,d5⟩:=g2 y H5 y5;have Rc:=I5.pinned (Px H5 fr5) (T.obj _ _ st5);have asg:=sL (X:=X') (pos:=px) (i:=0) (by rw [N0]; exact FK) Vu (.inl JR) (.inr JR) _ s5 fA H5 y u (fun O7 H6=>O7=fA.set 0 (some y)/\H6=H5) Rc r5 ⟨rfl,rfl⟩;rw [p1,p2,p5,p6,wo]at asg;refine fx asg fun _ s6 ⟨O7,H6,I6,e6,e6'⟩=> ?_;subst e6 e6';have ei:ds[i]? =some ds[i]:=ak fj;have ev:=O0 i _ ei;have tv:=Vp i _ ei;have A4:bQ H1 H6:=ci.same.trans Nl;have Nq:H6 cE.heap.objs.size=some (.lst ys):=Nl _ _ ci.at_;have Rp:Rep X'.K (fun a=>M a\/a=cE.heap.objs.size) H6 [] (fun _=>0) (jR ds[i] cs) (fA.set 0 (some y)) H6:=by
    refine⟨bQ.refl _,fun a ha=>VJ a ha H6 A4 ⟨ys,Nq⟩,fun k l fs Za e1=> ?_,fun k d0 e1=> ?_,fun k fs e1=> ?_,(fun p hp=>by cases hp), ?_⟩
    ·exfalso;unfold jR at e1;cases k with
     | zero=>cases aF e1
     | succ k=>
      rw [cM,aA]at e1;cases z:cs[k]? with
      | none=>rw [z]at e1; cases e1
      | some c=>rw [z]at e1; cases aF e1
    ·have RN: ∀a,MM (fun a=>M a\/a=cE.heap.objs.size) (jR ds[i] cs) (fun _=>0) a->(M a\/a=cE.heap.objs.size):=fun a ha=>by
      rcases ha with ha | ⟨k',fs,e2,_⟩
      ·exact ha
      ·exfalso;unfold jR at e2;cases k' with
       | zero=>cases aF e2
       | succ k'=>
        rw [cM,aA]at e2;cases z:cs[k']? with
        | none=>rw [z]at e2; cases e2
        | some c=>rw [z]at e2; cases aF e2
     subst eσ;unfold jR at e1;cases k with
     | zero=>
      have z:Sl.im ds[i]=Sl.im d0:=aF e1;cases z;refine⟨y,rfl, ?_⟩;rw [p3];exact d5.less RN
     | succ k=>
      rw [cM,aA]at e1;cases z:cs[k]? with
      | none=>rw [z]at e1; cases e1
      | some c=>
       rw [z]at e1;have z':Sl.im c=Sl.im d0:=aF e1;have hk:k < js.length:=by rw [CN.1]; exact(aB.mp z).1
       obtain⟨v,hv,dv⟩:=CN.2 k js[k] c (ak hk) z;cases z';refine⟨v, ?_, ?_⟩
       ·show(js.map fun j=>(σ[j]?).join)[k]? =some (some v);rw [aA,ak hk];show some (σ[js[k]]?).join=_;rw [hv];rfl
       ·rw [p3];exact(((dv.re fun a m=>m.elim .inl fun q=> .inr (by rw [q]; exact hD)).same A4)).less RN
    ·exfalso;unfold jR at e1;cases k with
     | zero=>cases aF e1
     | succ k=>
      rw [cM,aA]at e1;cases z:cs[k]? with
      | none=>rw [z]at e1; cases e1
      | some c=>rw [z]at e1; cases aF e1
    ·subst eσ;rw [bF];show(js.map fun j=>(σ[j]?).join).length+1=(cs.map Sl.im).length+1;rw [ae,ae,CN.1]
   have XH:=tv _ H6 [] (fun _=>0) _ H6 (fun b H'=>b=f ds[i]/\bQ H6 H') Rp (fun H' sm=>⟨rfl,sm⟩) _ s6 I6;rw [p1,p2,p5,p6,wo]at XH;refine fx XH fun b ZT ⟨H6',I6',eb,sm6⟩=> ?_;subst eb;cases ef:f ds[i]with
   | false=>
    rw [if_neg aG];refine⟨ds.length - (i+1),by omega,i+1,ys,_,_,rfl,fj,I6'.unpinned,⟨some y,by rw [eσ]; rfl⟩,
     T.keep _ _ _ st5 fun b hb o e=>(I6'.pin (b,o) (a_ _ (a_ _ (gX hb e)))).1,fun b hb=> ?_,A4.trans sm6,sm6 _ _ Nq, ?_⟩
    ·obtain⟨o,e,_⟩:=T.obj _ _ st5 b hb;exact(I6'.pin (b,o) (a_ _ (a_ _ (gX hb e)))).2.1
    ·rw [di,ei,Kr,bw];have:((some ds[i]).toList.filter f).map el= []:=by simp [ef]
     rw [this,bz];exact ci.dn.same (Nl.trans sm6)
   | true=>
   rw [if_pos rfl];have RC:=ev _ H6 [] (fun _=>0) _ H6' (fun v H'=>bQ H6' H'/\Dn X.K (fun a=>M a\/a=cE.heap.objs.size) H' (el ds[i]) v) (Rp.next sm6) (fun v H' sm dn=>⟨sm,by
    rw [p3]at dn;exact dn.less fun a ha=> .inl ha⟩) _ ZT I6'
   rw [p1,p2,p5,p6,wo]at RC;refine fx RC fun yv s7 ⟨v,H7,I7,r7,sm7',dn7⟩=> ?_;have Mw:bQ H6 H7:=sm6.trans sm7';have ap:=lW (X:=X') _ s7 _ H7 (.ref cE.heap.objs.size) [v] (.ref cE.heap.objs.size) [yv] (fun _ H8=>H8=upd H7 cE.heap.objs.size (.lst (ys ++ [v]))) I7 rfl (.cons r7 .nil)
    ⟨_,ys,v,rfl,rfl,Mw _ _ Nq,by rw [ci.dn.len,ae]; exact jc (bg (List.length_filter_le _ _) (by rw [bh]; exact bg (kf _ _) hsz)) (by decide:(1000000:Nat) < sizeLine),rfl⟩
   rw [p1,p2,p5,p6]at ap;refine fx ap fun _ s8 ⟨_,H8,I8,_,e8⟩=> ?_;subst e8;refine⟨ds.length - (i+1),by omega,i+1,ys ++ [v],_,_,rfl,fj,I8.unpinned,⟨some y,by rw [eσ]; rfl⟩,
    T.keep _ _ _ st5 fun b hb o e=>(I8.pin (b,o) (a_ _ (a_ _ (gX hb e)))).1,fun b hb=> ?_, ?_⟩
   ·obtain⟨o,e,_⟩:=T.obj _ _ st5 b hb;exact(I8.pin (b,o) (a_ _ (a_ _ (gX hb e)))).2.1
   ·refine⟨fM (A4.trans Mw) hD,bI, ?_⟩;have kp:q8 (fun a=>M a\/a=cE.heap.objs.size) H7 (upd H7 cE.heap.objs.size (.lst (ys ++ [v]))):=fun b o e n=>by
     by_cases hb:b=cE.heap.objs.size
     ·subst hb;rw [Mw _ _ Nq]at e; cases e;exact absurd (.inr rfl) (n _ rfl)
     ·rw [b8 hb]; exact e
    rw [di,ei,Kr,bw];have Z7:((some ds[i]).toList.filter f).map el= [el ds[i]]:=by simp [ef]
    rw [Z7];exact(cU.app (ci.dn.same (Nl.trans Mw)) (cU.one dn7)).keep kp
  ·have e:i=ds.length:=by omega
   subst e;refine fx (done w2) fun r s4 ⟨pF,I5⟩=> ?_;subst pF;obtain⟨o1,o2⟩:=out H s4 fA I5;obtain⟨m,hn,_⟩:=I5.loc;rw [wo]at hn;refine U1 _ _ m s4 H ys o1 hn o2 hD ci.same ci.at_ ?_;have:=ci.dn;rw [df]at this;exact this
 exact codeAny_compStart_list (loop _ rfl) (T.self X.A 0 _ _ _ MF (loop _ rfl))
theorem dF.compM{ρ:fB}{c:Expr}{f:D->Bool}{el:D->D}(ok:dU X N' js scope x cl)(hc:X.calm=true)(FK:N'.Nodup)(hs:iU X ρ (.Name x px) iter ds)(Ei:vV ρ js cs)(hsz:ds.length<=1000000)
  (CP: ∀(C:ai) (s₀:aj) (H₀:Hp) (fp:List ai) (pins:List (ai×Obj)) (i:Nat) (d:D),ds[i]? =some d->cg (g_ X N' scope cl C s₀ H₀ fp pins) (jR d cs) c (f d))
  (rB: ∀(C:ai) (s₀:aj) (H₀:Hp) (fp:List ai) (pins:List (ai×Obj)) (i:Nat) (d:D),ds[i]? =some d->ar (g_ X N' scope cl C s₀ H₀ fp pins) (jR d cs) elt (el d))
  (MH: ∀v,fW iter X.env v=pure v:=by intro _; rfl):dF X ρ (.ListComp elt [⟨.Name x px,iter, [c],0⟩] scope pos) ((ds.filter f).map el):=fun M0 H0 γ α σ H Q R k pins s I=>by
 rw [eval_ListComp];refine mP (use:=none) rfl MH ok.Ci ok.kind ok.names ?_;have h:=hs M0 H0 γ α σ H (fun J H1=> ∃gs,bQ H H1/\(∀p∈gs,Dn X.K (MM M0 ρ α) H1 p.1 p.2)/\Walk X.K J ds gs) R (fun J H1 gs s g w=>⟨gs,s,g,w⟩) pins s I;refine fx h fun v s1 h1=>fx h1 fun PM s2 ⟨it,fp,tn,J,H1,e,I2,T,st,ff,gs,sm,hg,w⟩=> ?_;subst e;refine rM ok hc FK I2 T st ff hg w hsz (Ei.ok R sm) (i6 R sm) (fun C s₀ H₀ i d=>CP C s₀ H₀ fp pins i d) (fun C s₀ H₀ i d=>rB C s₀ H₀ fp pins i d) fun D0 C m s1 H2 ys I1 hn fo hD Ph ha dn=> ?_;exact⟨m,hn,fun h' sb=>⟨.ref D0,H2,I1.turned (t':=s1.toks) (fun b o hb e=>sb.extBut b o hb e) fo.1 fo.2.1 fo.2.2.2.1 fo.2.2.2.2.1 fo.2.2.2.2.2,rfl,k D0 ys H1 H2 sm hD Ph ha dn⟩⟩
theorem W1.compM{ρ:fB}{M0:MP}{H0:Hp}{P:pJ}{i:Nat}{y:Str}{py Kk:Pos}{c:Expr}{f:D->Bool}{el:D->D}(ok:dU X N' js scope x cl)(hc:X.calm=true)(FK:N'.Nodup)(hs:iU X ρ (.Name x px) iter ds)(Ei:vV ρ js cs)(hsz:ds.length<=1000000)
  (CP: ∀(C:ai) (s₀:aj) (H₀:Hp) (fp:List ai) (pins:List (ai×Obj)) (i:Nat) (d:D),ds[i]? =some d->cg (g_ X N' scope cl C s₀ H₀ fp pins) (jR d cs) c (f d))
  (rB: ∀(C:ai) (s₀:aj) (H₀:Hp) (fp:List ai) (pins:List (ai×Obj)) (i:Nat) (d:D),ds[i]? =some d->ar (g_ X N' scope cl C s₀ H₀ fp pins) (jR d cs) elt (el d))
  (hN:X.N.Nodup)(hi:X.N[i]? =some y)(hy:X.env.scope.names.lookup y=some .local)(fj:i < ρ.length)(q:P.N (ρ.set i (.mu ((ds.filter f).map el))))
  (CV:cu (.ListComp elt [⟨.Name x px,iter, [c],0⟩] scope pos) (some (.Name y py)) Kk.line X.env=pure true:=by rfl)(MH: ∀v,fW iter X.env v=pure v:=by intro _; rfl):
  W1 X M0 H0 (.Assign [.Name y py] (.ListComp elt [⟨.Name x px,iter, [c],0⟩] scope pos) Kk) ρ P:=fun γ α σ H R pins s I=>by
 rw [exec_Assign_Name_used _ _ _ _ CV];refine aa (mL (aa ?_));show av _ X.A (do let _<-comprehension (.ListComp elt [⟨.Name x px,iter, [c],0⟩] scope pos) scope X.env _ (xr []) false (bV iter X.env) (some (lL (.Name y py) X.env))) _ _ s;refine aa (b_ (mP (use:=some (lL (.Name y py) X.env)) (Q:=fun _ s'=>SP X pins (ends X.K M0 H0 γ P) .next s') rfl MH ok.Ci ok.kind ok.names ?_) (fun _ s' hq=>ag (ag hq)) fun _ _ e=>e);have h:=hs M0 H0 γ α σ H (fun J H1=> ∃gs,bQ H H1/\(∀p∈gs,Dn X.K (MM M0 ρ α) H1 p.1 p.2)/\Walk X.K J ds gs) R (fun J H1 gs s g w=>⟨gs,s,g,w⟩) pins s I;refine fx h fun v s1 h1=>fx h1 fun PM s2 ⟨it,fp,tn,J,H1,e,I2,T,st,f,gs,sm,hg,w⟩=> ?_;subst e;refine rM ok hc FK I2 T st f hg w hsz (Ei.ok R sm) (i6 R sm) (fun C s₀ H₀ i d=>CP C s₀ H₀ fp pins i d) (fun C s₀ H₀ i d=>rB C s₀ H₀ fp pins i d) fun D0 C m s1 H2 ys I1 hn fo hD Ph ha dn=> ?_;show av _ _ (lL (.Name y py) X.env (.ref D0)) _ _ s1;refine KQ (qY (v:= .ref D0) I1 hN hi (.inl hy) rfl (fun s' I' ⟨a,sb,ea⟩=> ?_) (.inr hy));have Vj:C≠a:=by
  rcases ea with rfl | ea
  ·exact fo.2.1
  ·exact fun z=>fo.2.2.2.2.1 y a ea z.symm
 refine⟨m,hn.at' fun o e=>sb.extBut C o Vj e,fun h' VV=>⟨_,H2,I'.turned (t':=s'.toks) (fun b o hb e=>VV.extBut b o hb e) fo.1 fo.2.1 fo.2.2.2.1 fo.2.2.2.2.1 fo.2.2.2.2.2, ?_⟩⟩;exact⟨_,_,(R.next sm).set_mu fj hD Ph ha dn,q⟩
theorem dF.compI{ρ:fB}{c:Expr}{f:D->Bool}(ok:dU X N' js scope x cl)(hc:X.calm=true)(FK:N'.Nodup)(hs:iU X ρ (.Name x px) iter ds)(Ei:vV ρ js cs)(hsz:ds.length<=1000000)
  (CP: ∀(C:ai) (s₀:aj) (H₀:Hp) (fp:List ai) (pins:List (ai×Obj)) (i:Nat) (d:D),ds[i]? =some d->cg (g_ X N' scope cl C s₀ H₀ fp pins) (jR d cs) c (f d))
  (rB: ∀(C:ai) (s₀:aj) (H₀:Hp) (fp:List ai) (pins:List (ai×Obj)) (i:Nat) (d:D),ds[i]? =some d->ar (g_ X N' scope cl C s₀ H₀ fp pins) (jR d cs) elt d)
  (MH: ∀v,fW iter X.env v=pure v:=by intro _; rfl):dF X ρ (.ListComp elt [⟨.Name x px,iter, [c],0⟩] scope pos) (ds.filter f):=by
 have:=dF.compM (el:=fun d=>d) (pos:=pos) ok hc FK hs Ei hsz CP rB MH;rw [List.map_id']at this;exact this
end
section
variable {X:Cx}{ρ:fB}{M0:MP}{H0 H H':Hp}{γ:List (D×V)}{α:Nat->ai}{σ:St}{En:Ends}{ny:List cF}{e:Expr}{d:D}{ds:List D}{pos pos':Pos}{i j:Nat}{x:Str}{a:ai}{kv:o4}
theorem cW.setF(B:cW X M0 H0 γ α ρ σ H i a kv)(hN:X.N.Nodup)(hj:X.N[j]? =some x)(hx:Loc X.env.scope x)(hl:j < ρ.length)(FL:j≠i)(h:dF X (ρ.set i (.im (oI kv))) e ds)(hb: ∀d∈ds,D.bare 9 d)
  (k: ∀α v H',cW X M0 H0 γ α (ρ.set j (.mu ds)) (σ.set j (some v)) H' i a kv->mi X ny En (σ.set j (some v)) H')
  (hs:cu e (some (.Name x pos')) pos.line X.env=pure false:=by rfl)(hf:X.fn x=true\/X.env.scope.names.lookup x=some .local:=by first | exact .inl rfl | exact .inr rfl | assumption):mi X (.Assign [.Name x pos'] e pos::ny) En σ H:=
 (dh rV gr).to ((nB hN hj hx iE hs hf).to (h M0 H0 γ α σ H _ B.view fun l xs H1 H' s n s' y z=>by
  have D1:=B.next s;obtain⟨_,ys,ho⟩:=D1.obj;have MC:l≠a:=fun q=>by rw [q,ho]at n; cases n
  have yO:=s' _ _ ho;obtain⟨bs,q1,q2,q3⟩:=D1.ex;refine k _ _ H' ⟨D1.r.set_mu hl (by unfold eV; rw [if_neg MC]; exact n) (oH s') (jN MC y) (cU.map1 (fun d hd v=>Dn.hideB yO 9 (hb d hd)) z),by rw [eQ FL.symm]; exact D1.un,by rw [eQ FL.symm]; exact D1.at_,D1.nd,bs,q1,q2.imp fun _ q2=>s' _ _ q2, ?_⟩;refine cU.map1 (fun d hd v=> ?_) (q3.same (oH s'));obtain⟨x,_,rfl⟩:=aE.mp hd;exact Dn.bare 9 (iD 7 _)))
end
end Z
namespace K
open PySem L2 Z
theorem HU(C:ai)(f:c5)(qs:dQ):D.bare 9 (g9 C f qs):=fun d hd=>by
 have:d= .int f.st\/d= .int f.ht\/d= .int f.lf\/d= .tup (qs.map pD):=by simpa [tO]using hd
 rcases this with rfl | rfl | rfl | rfl
 ·exact cB
 ·exact cB
 ·exact cB
 ·intro d hd;obtain⟨p,_,rfl⟩:=aE.mp hd;intro d hd;have:d= .int p.1\/d= .int p.2:=by simpa [pD]using hd
  rcases this with rfl | rfl <;> exact cB
theorem L7(t:jf):D.bare 9 (tD t):=fun d hd=>by
 have:d= .int t.1\/d= .int t.2.1\/d= .int t.2.2:=by simpa [tD]using hd
 rcases this with rfl | rfl | rfl <;> exact cB
def nb(f:c5)(rs:Rows):List Rows:=(lets f rs).map (mv rs)
def fO(f:c5)(g:Rows):o4:=Lb (nb f) 160000 [(g,0)] 0
structure Kw(f:c5)(g rs:Rows):Prop where
 gd:good f rs=true
 of:Of g.flatten g.length rs
theorem j4{f:c5}{rs:Rows}{t:jf}(h:isLet f rs t=true):Kt f rs t/\good f (mv rs t)=true:=by
 unfold isLet at h;rw [bN]at h;exact⟨kq.mp h.1,h.2⟩
theorem lB{f:c5}{rs:Rows}{t:jf}(ok:qm f):t∈lets f rs↔isLet f rs t=true:=Gs (by have:=ok.st; omega) (by have:=ok.lf; omega)
theorem t9{f:c5}{rs r:Rows}(ok:qm f):r∈nb f rs↔ ∃t,isLet f rs t=true/\mv rs t=r:=by
 unfold nb;rw [aE];exact⟨fun⟨t,h1,h2⟩=>⟨t,(lB ok).mp h1,h2⟩,fun⟨t,h1,h2⟩=>⟨t,(lB ok).mpr h1,h2⟩⟩
theorem Gz{f:c5}{g rs:Rows}(ok:qm f)(h:Kw f g rs): ∀r∈nb f rs,Kw f g r:=fun r hr=>by
 obtain⟨t,ht,rfl⟩:=(t9 ok).mp hr;obtain⟨hc,g2⟩:=j4 ht;exact⟨g2,(yh (dS h.gd) hc).trans h.of.1,(Cj rs t).trans h.of.2⟩
theorem De{f:c5}{rs r:Rows}(ok:qm f)(hg:good f rs=true)(h:r∈nb f rs):rs∈nb f r:=by
 obtain⟨t,ht,rfl⟩:=(t9 ok).mp h;obtain⟨b1,b2⟩:=zL hg ht;exact(t9 ok).mpr ⟨bk t,b1,b2⟩
structure dE(f:c5)(qs:dQ)(g:Rows):Prop where
 s:gu f qs
 gd:good f g=true
 iT:g.flatten.length<=4
theorem dE.Cd{f:c5}{qs:dQ}{g:Rows}(h:dE f qs g):Kw f g g:=⟨h.gd,dC _,rfl⟩
theorem dE.le{f:c5}{qs:dQ}{g:Rows}(h:dE f qs g){kv:o4}(nd:(kv.map (·.1)).Nodup)(hi: ∀x∈kv,Kw f g x.1):kv.length<=160000:=
 OG h.iT (by have:=dS h.gd; have:=h.s.ok.st; omega) nd fun x hx=>(hi x hx).of
structure Bv(f:c5)(g:Rows):Prop where
 be:BE (nb f) g (fO f g)
 Cd: ∀x∈fO f g,Kw f g x.1
 len:(fO f g).length<=160000
theorem dE.fin{f:c5}{qs:dQ}{g:Rows}(h:dE f qs g):Bv f g:=by
 obtain⟨d,b,hp,hd⟩:=C_ (nb:=nb f) (g:=g) (P:=Kw f g) (N:=160000) (fun k hk k'=>Gz h.s.ok hk k') (fun kv nd hi=>h.le nd hi) 160000 [(g,0)] 0 BI.start (fun x hx=>by rw [aJ.mp hx]; exact h.Cd) (bK _) (ay _);exact⟨b.fin hd,hp,h.le b.nd hp⟩
structure Mb(f:c5)(g:Rows)(kv:o4)(d:Nat):Prop where
 b:BI (nb f) g kv d
 Cd: ∀x∈kv,Kw f g x.1
 le:d<=kv.length
 end_:Lb (nb f) (160000 - d) kv d=fO f g
theorem Mb.start{f:c5}{qs:dQ}{g:Rows}(h:dE f qs g):Mb f g [(g,0)] 0:=⟨BI.start,fun x hx=>by rw [aJ.mp hx]; exact h.Cd,bK _,rfl⟩
theorem Mb.step{f:c5}{qs:dQ}{g:Rows}{kv:o4}{d:Nat}(h:dE f qs g)(w:Mb f g kv d)(hd:d < kv.length):Mb f g (pC (nb f) kv d) (d+1)/\d < 160000:=by
 have l:=h.le w.b.nd w.Cd;have p:=(wM (nb:=nb f) kv d).length_le;refine⟨⟨w.b.step hd,xa (P:=Kw f g) (fun k hk k'=>Gz h.s.ok hk k') w.Cd,by omega, ?_⟩,by omega⟩;have e:=w.end_;rw [show 160000 - d=160000 - (d+1)+1 by omega,Lb,if_pos hd]at e;exact e
theorem Mb.done{f:c5}{g:Rows}{kv:o4}{d:Nat}(w:Mb f g kv d)(hd: ¬d < kv.length):kv=fO f g:=by
 have e:=w.end_;cases n:160000 - d with
 | zero=>rw [n]at e; exact e
 | succ n'=>rw [n,Lb,if_neg hd]at e; exact e
theorem IS{f:c5}{kv:o4}{d:Nat}{rs:Rows}{h:Int}(e:kv[d]? =some (rs,h)):pC (nb f) kv d=(nb f rs).foldl (visit h) kv:=by
 unfold pC;rw [e]
theorem foldl_take_succ{α β:Type}(F:β->α->β)(b:β){l:List α}{n:Nat}{x:α}(h:l[n]? =some x):(l.take (n+1)).foldl F b=F ((l.take n).foldl F b) x:=by
 rw [di,h,KU];rfl
def intAt(i:Nat)(ρ:fB):Nat:=match ρ[i]? with
 | some (Sl.im (.int z))=>160000 - z.toNat
 | _=>0
section
variable {P:aH}{w:aW}{K:Frag}{mg:Str->Option af}{base:aY}{CX:k_}{C:ai}
theorem Ea:bM ["floor","goal","above","reached","done","standing","lift","behind"] ["floor","goal"] (aL uq):=l8
variable (P w K mg base CX)in
abbrev tV(C:ai):Prop:=
 j6 P w K mg base CX 7 "heights_above" (fun i:c5×dQ×Rows=> [g9 C i.1 i.2.1,rT i.2.2]) (fun i=>dE i.1 i.2.1 i.2.2) (fun i=> .ok (oI (fO i.1 i.2.2)))
theorem Im{f:ai}{fd:bb}(nx:NX CX)(B:Bm mg)(G1:yu P w K mg base CX C)(G2:rg P w K mg base CX)(F:ji K "heights_above" "heights_above" uq f fd)(hm:mg "heights_above"=some (.ref f))(hb:Binds K fd ["floor","goal"] []):tV P w K mg base CX C:=by
 refine LO F Ea hm hb (fun i=>rfl) fun dX A outer s H E i M0 hp hr=>⟨_,rfl,fun σ R=> ?_⟩;obtain⟨fl,qs,g⟩:=i;have ho:dE fl qs g:=hp;have px:=Ea.nd;have xm:(A.deeper (fi "heights_above" (aL uq) s.heap.objs.size f dX)).units+8 < cLine:=by have:=pN hr; omega
 change Rep K M0 H [] (fun _=>0) [.im (g9 C fl qs), .im (rT g), .un, .un, .un, .un, .un, .un] σ H at R;change mi _ (bo uq) (ends K M0 H [] {N:=fun _=>oI (fO fl g)= .non,R:=fun d'=>d'=oI (fO fl g)}) σ H;refine cW.start (i:=2) (rs:=g) (n:=0) xm R px rfl (.inl rfl) (fz rfl) (nm 1 rfl rfl) ar.int fun a H1 D1=> ?_;change cW _ _ _ _ _ [.im (g9 C fl qs), .im (rT g), .un, .un, .un, .un, .un, .un] _ _ _ _ _ at D1;refine cW.setF (j:=3) (ds:= [f9 g]) D1 px rfl (.inl rfl) (fz rfl) (by decide) (dF.lst (aU.cons (nm 1 rfl rfl) aU.nil)) (fun d hd=>by rw [aJ.mp hd]; exact iD 7 _) fun FG v2 H2 D2=> ?_;refine cW.set (j:=4) (d:= .int 0) D2 px rfl (.inl rfl) (fz rfl) (by decide) ar.int cB fun v3 H3 D3=> ?_;refine(dh rV gr).to (cW.while (fun ρ kv=> ∃(d:Nat) (a5 a6 a7:Sl),ρ= [.im (g9 C fl qs), .im (rT g), .un, .mu (kv.map fun x=>f9 x.1), .im (.int d),a5,a6,a7]/\Mb fl g kv d) (fun ρ _=>intAt 4 ρ) bu D3 ⟨0,_,_,_,rfl,Mb.start ho⟩ ?_);rintro α ρ σ kv ⟨d,a5,a6,a7,rfl,wk⟩;refine⟨_,cg.cI .lt (nm 4 rfl rfl) (ar.lenL rfl B.len (zr 3 rfl rfl)),fun h H D=> ?_,fun h H D=> ?_⟩
 ·rw [ae]at h;have hd:d < kv.length:=by
   have:(d:Int) < kv.length:=by simpa using h
   omega
  obtain⟨WT,hd2⟩:=wk.step ho hd;obtain⟨rs,hh⟩: ∃rs:Rows, ∃h:Int,kv[d]? =some (rs,h):=⟨kv[d].1,kv[d].2,ak hd⟩;obtain⟨ht,hk⟩:=hh;rw [IS hk]at WT;have rZ:Kw fl g rs:=wk.Cd _ (aR hk);have KG:wd fl qs rs:=⟨ho.s,rZ.gd⟩;refine cW.set (j:=5) (d:=f9 rs) D px rfl (.inl rfl) (fz rfl) (by decide) (ar.ixL (zr 3 rfl rfl) (nm 4 rfl rfl) (by
   rw [pM rfl (by rw [ae]; exact hd),a8];rw [ak hd]at hk;rw [aF hk])) (iD 7 _) fun v4 H4 D4=> ?_
  refine(dh rV gr).to (cW.for (t:=6) (ds:=(lets fl rs).map tD) (fun n ρ pG=> ∃a6 a7:Sl,ρ= [.im (g9 C fl qs), .im (rT g), .un, .mu (pG.map fun x=>f9 x.1), .im (.int d), .im (f9 rs),a6,a7]/\pG=((nb fl rs).take n).foldl (visit ht) kv) bu rfl px rfl (.inl rfl) (by decide) D4
   (ar.call G1 hr (aP nx) rfl (fl,qs,rs) (aU.cons (nm 0 rfl rfl) (aU.cons (nm 5 rfl rfl) aU.nil)) KG rfl) (fun d hd=>by obtain⟨t,_,rfl⟩:=aE.mp hd; exact L7 t) ⟨_,_,rfl,rfl⟩ (fun n ρ pG ⟨_,_,e,_⟩=>by rw [e]; exact fz rfl) ?_ ?_)
  ·rintro Gf n dd α ρ σ H pG hn ⟨b6,b7,rfl,ekv⟩ D;rw [aA]at hn;cases et:(lets fl rs)[n]? with
   | none=>rw [et]at hn; cases hn
   | some t=>
    rw [et]at hn;cases hn;have hl:=(lB ho.s.ok).mp (aR et);obtain⟨hc,mK⟩:=j4 hl;have en:(nb fl rs)[n]? =some (mv rs t):=by unfold nb; rw [aA,et]; rfl
    have Pa:=foldl_take_succ (visit ht) kv en;rw [<-ekv]at Pa;have FE:kv <+:pG:=by rw [ekv]; exact pS ht _ kv
    have U6: ∀x∈pG,Kw fl g x.1:=by
     rw [ekv];exact pL ht _ kv wk.Cd fun k hk=>Gz ho.s.ok rZ k (f6 hk)
    have hlen:=ho.le D.nd U6;have J7:(rs,ht)∈pG:=FE.subset (aR hk);have ht0:0<=ht:=wk.b.asc 0 d _ _ _ _ (bK _) wk.b.fst hk;refine cW.set (j:=7) (d:=f9 (mv rs t)) D px rfl (.inl rfl) (fz rfl) (by decide) (ar.call G2 (hr.mono (by decide)) (aP nx) rfl (rs,t) (aU.cons (nm 5 rfl rfl) (aU.cons (nm 6 rfl rfl) aU.nil)) (hc.mvOk (dS KG.g) KG.sm) rfl) (iD 7 _) fun v5 H5 D5=> ?_;refine(qv rV).to (cW.ite D5 (cg.notInDc (k:=mv rs t) xm D5.nd (nm 7 rfl rfl) (nm 2 rfl rfl)) (fun h2 H6 D6=> ?_) fun h2 H6 D6=> ?_)
    ·have p8:mv rs t∉pG.map (·.1):=by simpa using h2
     have ev:visit ht pG (mv rs t)=pG ++ [(mv rs t,ht+1)]:=if_neg p8;refine(dh rV gr).to (cW.put (rs:=mv rs t) (n:=ht+1) xm D6 rfl (.inl rfl) (nm 7 rfl rfl) (ar.add (ar.dget (k:=rs) (n:=ht) xm D6.nd J7 (nm 2 rfl rfl) (nm 5 rfl rfl)) ar.int) p8 (by show pG.length<=sizeLine; unfold sizeLine; omega) fun H7 D7=> ?_);refine(qv rV).to (cW.append (j:=3) (d:=f9 (mv rs t)) D7 rfl (.inl rfl) (by decide) rfl (by rw [ae]; omega) (nm 7 rfl rfl) (iD 7 _) (fun H8 D8=>⟨_,_,_,D8, .im (tD t), .im (f9 (mv rs t)), ?_, ?_⟩) ⟨rfl,rfl,rfl,rfl⟩)
     ·rw [bw]; rfl
     ·rw [Pa,ev]
    ·have hold:mv rs t∈pG.map (·.1):=by simpa using h2
     have ev:visit ht pG (mv rs t)=pG:=if_pos hold;exact s9.to ⟨_,_,_,D6,_,_,rfl,by rw [Pa,ev]⟩
  ·rintro α ρ σ H pG ⟨b6,b7,rfl,ekv⟩ D;rw [ae,show(lets fl rs).length=(nb fl rs).length from(ae ..).symm,df]at ekv;subst ekv;refine cW.set (j:=4) (d:= .int ((d+1:Nat):Int)) D px rfl (.inl rfl) (fz rfl) (by decide) (ar.to (ar.add (nm 4 rfl rfl) ar.int) (by rw [Int.natCast_add]; rfl)) cB fun v9 H9 D9=> ?_;refine s9.to ⟨_,_,_,D9,⟨d+1,_,_,_,rfl,WT⟩, ?_⟩;show 160000 - ((d+1:Nat):Int).toNat < 160000 - (d:Int).toNat;omega
 ·rw [ae]at h;have hd: ¬d < kv.length:=by
   have: ¬(d:Int) < kv.length:=by simpa using h
   omega
  have e:=wk.done hd;subst e;exact WS.one (W1.ret (nm 2 rfl rfl) rfl) [] _ _ _ D.view
end
theorem rQ: ∀(a b:List Int),dY (D.pds (a.map .int)) (D.pds (b.map .int))=decide (a=b)
 | [], []=>rfl
 | [],_::_=>rfl
 | _::_, []=>rfl
 | x::a,y::b=>by
  show((x==y)&&dY (D.pds (a.map .int)) (D.pds (b.map .int)))=decide (x::a=y::b);rw [rQ a b]
  by_cases h:x=y
  ·subst h;simp
  ·have:(x==y)=false:=beq_eq_false_iff_ne.mpr h;rw [this,fC]
   symm
   apply decide_eq_false;intro z;exact h (List.cons.inj z).1
theorem uV(a b:List Int):D.eqv (.lst (a.map .int)) (.lst (b.map .int))=decide (a=b):=by
 rw [<-rQ];simp only [D.eqv,D.pd,hW]
theorem AJ{a b:List Int}(h:o_ a=o_ b):a.Perm b:=(nO a).symm.trans (h▸nO b)
def nU(kv:o4)(rs:Rows):Int:=match kv.find? fun x=>decide (x.1=rs)with
 | some x=>x.2
 | none=>0
section
variable {f:c5}{qs:dQ}{g:Rows}
theorem Bv.ht(e:Bv f g){rs:Rows}{n:Int}(h:(rs,n)∈fO f g):nU (fO f g) rs=n:=by
 unfold nU;cases q:(fO f g).find? fun x=>decide (x.1=rs)with
 | none=>
  have:=List.find?_eq_none.mp q _ h;simp at this
 | some x=>
  have h1:=List.mem_of_find?_eq_some q;have h2:=List.find?_some q;obtain⟨k,m⟩:=x;have h3:k=rs:=by simpa using h2
  subst h3;exact e.be.uniq h1 h
theorem Bv.has(e:Bv f g){rs:Rows}(h:rs∈(fO f g).map (·.1)):(rs,nU (fO f g) rs)∈fO f g:=by
 obtain⟨x,hx,rfl⟩:=aE.mp h;rw [e.ht (n:=x.2) hx];exact hx
theorem Bv.nb(e:Bv f g)(ok:qm f){rs:Rows}{n:Int}(h:(rs,n)∈fO f g){t:jf}(ht:isLet f rs t=true): ∃m,(mv rs t,m)∈fO f g/\m<=n+1/\n<=m+1:=by
 have h1:=(t9 ok).mpr ⟨t,ht,rfl⟩;obtain⟨m,hm,le⟩:=e.be.L6 _ _ h _ h1;obtain⟨n',hn,Xe⟩:=e.be.L6 _ _ hm _ (De ok (e.Cd _ h).gd h1);exact⟨m,hm,le,by rw [e.be.uniq h hn]; exact Xe⟩
theorem Bv.down(e:Bv f g)(ok:qm f){rs:Rows}{n:Int}(h:(rs,n)∈fO f g)(hn:0 < n): ∃t,isLet f rs t=true/\nU (fO f g) (mv rs t) < n:=by
 rcases e.be.par _ _ h with⟨_,h0⟩ | ⟨k,m,hk,hb,rfl⟩
 ·omega
 ·obtain⟨t,ht,q⟩:=(t9 ok).mp (De ok (e.Cd _ hk).gd hb);exact⟨t,ht,by rw [q,e.ht hk]; omega⟩
theorem Bv.below(e:Bv f g): ∀(n:Nat) {rs:Rows},(rs,(n:Int))∈fO f g-> ∀m:Nat,m<=n-> ∃r,(r,(m:Int))∈fO f g
 | n,rs,h,m,hm=>by
  by_cases q:m=n
  ·subst q; exact⟨rs,h⟩
  ·rcases e.be.par _ _ h with⟨_,h0⟩ | ⟨k,m',hk,hb,h1⟩
   ·omega
   ·have:m'=((n - 1:Nat):Int):=by omega
    subst this;exact Bv.below e (n - 1) hk m (by omega)
theorem Bv.low(e:Bv f g){n:Nat}{rs:Rows}(h:(rs,(n:Int))∈fO f g):n < 160000:=by
 have sub: ∀x∈(bj (n+1)).map (fun(m:Nat)=>(m:Int)),x∈(fO f g).map (·.2):=fun x hx=>by
  obtain⟨m,hm,rfl⟩:=aE.mp hx;obtain⟨r,hr⟩:=e.below n h m (by have:=cy.mp hm; omega);exact aE.mpr ⟨_,hr,rfl⟩
 have nd:((bj (n+1)).map (fun(m:Nat)=>(m:Int))).Nodup:=dq.mpr ((List.nodup_range (n:=n+1)).imp fun{a b} h q=>h (by omega));have:=yE nd sub;rw [ae,bS,ae]at this;have:=e.len;omega
end
def Ju(kv:o4)(rs:Rows)(t:jf):Bool:=decide (nU kv (mv rs t) < nU kv rs)
def Qm(kv:o4)(rs:Rows):D->Bool
 | .tup [.int a, .int b, .int n]=>Ju kv rs (a,b,n)
 | _=>false
def low(f:c5)(g rs:Rows):List jf:=(lets f rs).filter (Ju (fO f g) rs)
theorem LF(kv:o4)(rs:Rows)(l:List jf):(l.map tD).filter (Qm kv rs)=(l.filter (Ju kv rs)).map tD:=by
 rw [List.filter_map];rfl
def way(f:c5)(g:Rows):Nat->Rows->List jf
 | 0,_=> []
 | n+1,rs=>(low f g rs).headD (0,0,0)::way f g n (mv rs ((low f g rs).headD (0,0,0)))
theorem sX(f:c5)(g:Rows): ∀(n:Nat) (rs:Rows),(way f g n rs).length=n
 | 0,_=>rfl
 | n+1,rs=>by rw [way,aK,sX f g n]
structure DB(f:c5)(qs:dQ)(g rs:Rows):Prop where
 o:dE f qs g
 m:rs∈(fO f g).map (·.1)
theorem zh{f:c5}{qs:dQ}{g rs:Rows}{n:Nat}(o:dE f qs g)(h:(rs,((n+1:Nat):Int))∈fO f g): ∃t r,low f g rs=t::r/\isLet f rs t=true/\(mv rs t,(n:Int))∈fO f g:=by
 have e:=o.fin;have ok:=o.s.ok;obtain⟨t,ht,fj⟩:=e.down ok h (by omega);have FJ:t∈low f g rs:=kM.mpr ⟨(lB ok).mpr ht,by unfold Ju; rw [e.ht h]; exact decide_eq_true fj⟩;cases q:low f g rs with
 | nil=>rw [q]at FJ; cases FJ
 | cons t0 r=>
  have h0:t0∈low f g rs:=by rw [q]; exact .head _
  obtain⟨a1,a2⟩:=kM.mp h0;have hl:=(lB ok).mp a1;obtain⟨m,hm,le1,Xe⟩:=e.nb ok h hl;unfold Ju at a2;rw [e.ht hm,e.ht h]at a2;have a3:=of_decide_eq_true a2;have:m=(n:Int):=by omega
  subst this;exact⟨t0,r,rfl,hl,hm⟩
section
variable {P:aH}{w:aW}{K:Frag}{mg:Str->Option af}{base:aY}{CX:k_}{C CT:ai}
theorem uc:bM ["standing","crates","stack"] ["standing"] (aL oM):=l8
variable (P w K mg base CX)in
abbrev oy:Prop:=
 j6 P w K mg base CX 1 "crates_of" (fun rows:Rows=> [rT rows]) (fun rows=>rows.flatten.length < 64) (fun rows=> .ok (.lst ((o_ rows.flatten).map .int)))
theorem Al{f:ai}{fd:bb}(B:Bm mg)(F:ji K "crates_of" "crates_of" oM f fd)(hm:mg "crates_of"=some (.ref f))(hb:Binds K fd ["standing"] []):oy P w K mg base CX:=by
 refine eu F uc hm hb (fun i=>rfl) fun dX A outer s H E rows M0 hp hr=>⟨_,rfl, ?_⟩;have qU:rows.flatten.length < 64:=hp;have px:=uc.nd;have hlen:(bt true rows).length=rows.length:=ae ..;change WS _ M0 H (bo oM) [.im (rT rows), .un, .un] _;refine WS.cons (W1.setF (i:=1) px rfl (.inl rfl) (fz rfl) (dF.lst aU.nil) ?_);refine WS.cons (W1.for (ds:=bt true rows) (fun i ρ=> ∃a,ρ= [.im (rT rows), .mu ((rows.take i).flatten.map .int),a]) bu rfl (iU.tup (nm 0 rfl rfl)) ⟨_,by rw [h_]; rfl⟩ ?_ ?_)
 ·rintro i d ρ hd ⟨a,rfl⟩;obtain⟨r,pF,rfl⟩:=fG hd;have l1:=jI rows i;have l2:=mx (aR pF);refine⟨_,sW.name (i:=2) px rfl (.inl rfl) (fz rfl), ?_⟩;refine WS.one (W1.extend (i:=1) (fs:=r.map .int) rfl (.inl rfl) rfl (nm 2 rfl rfl) rfl (by rw [ae,ae]; omega) ?_ ⟨rfl,rfl,rfl,rfl⟩);dsimp only;rw [oU pF,bw];exact⟨_,rfl⟩
 rintro ρ ⟨a,rfl⟩;rw [hlen,df];exact WS.one (W1.ret (dF.toD (dF.sortedI rfl B.sorted (zr 1 rfl rfl) qU)) rfl)
theorem EY:bM ["standing"] ["standing"] (aL nP):=l8
variable (P w K mg base)in
abbrev nJ(CT:ai):Prop:=
 j6 P w K mg base (fP P w) 2 "refuse_too_many" (fun rows:Rows=> [rT rows]) (fun rows=>rows.flatten.length < 64) (fun rows=>if rows.flatten.length<=4 then .ok .non else .error CT)
theorem Cp{f:ai}{fd:bb}(er:AB "TooMany" CT mg base)(Xl: ∃t,mg "MOST_CRATES"=some (.int 4 t))(B:Bm mg)(G:oy P w K mg base (fP P w))(F:ji K "refuse_too_many" "refuse_too_many" nP f fd)(hm:mg "refuse_too_many"=some (.ref f))(hb:Binds K fd ["standing"] []):nJ P w K mg base CT:=by
 refine oS F EY hm hb (fun i=>rfl) fun dX A outer s H E rows M0 hp hr=> ?_;have qU:rows.flatten.length < 64:=hp;have nx:NX (fP P w):=kG
 by_cases hg:rows.flatten.length<=4
 ·refine .inl ⟨.non,if_pos hg, ?_⟩;change WS _ M0 H (bo nP) [.im (rT rows)] {N:=fun _=>D.non= .non,R:=fun d'=>d'= .non};refine WS.one (W1.ite (cg.cI .gt (ar.lenL rfl B.len (ar.r (ar.call G hr (aP nx) rfl rows (aU.cons (nm 0 rfl rfl) aU.nil) qU rfl))) (uO Xl rfl)) (fun h=> ?_) fun h=>WS.nil rfl);rw [ae,qL]at h;have:=of_decide_eq_true h;omega
 ·refine .inr ⟨CT,if_neg hg, ?_⟩;change f7 _ [.im (rT rows)] E (bo nP) CT;refine f7.here (vW.ite (t:=true) (cg.to (cg.cI .gt (ar.lenL rfl B.len (ar.r (ar.call G hr (aP nx) rfl rows (aU.cons (nm 0 rfl rfl) aU.nil) qU rfl))) (uO Xl rfl)) ?_) (fun _=>f7.here (vW.raise er rfl ar.str)) fun h=>by cases h);rw [ae,qL];exact decide_eq_true (by omega)
theorem Lo:bM ["floor","standing","above"] ["floor","standing","above"] (aL tP):=l8
variable (P w K mg base CX)in
abbrev Ca(C:ai):Prop:=
 j6 P w K mg base CX 7 "lowering_lifts" (fun i:c5×dQ×Rows×Rows=> [g9 C i.1 i.2.1,rT i.2.2.2,oI (fO i.1 i.2.2.1)]) (fun i=>DB i.1 i.2.1 i.2.2.1 i.2.2.2) (fun i=> .ok (.lst ((low i.1 i.2.2.1 i.2.2.2).map tD)))
theorem Hg{f:ai}{fd:bb}(nx:NX CX)(B:Bm mg)(G1:yu P w K mg base CX C)(G2:rg P w K mg base CX)(F:ji K "lowering_lifts" "lowering_lifts" tP f fd)(hm:mg "lowering_lifts"=some (.ref f))(hb:Binds K fd ["floor","standing","above"] []):Ca P w K mg base CX C:=by
 refine eu F Lo hm hb (fun i=>rfl) fun dX A outer s H E i M0 hp hr=>⟨_,rfl, ?_⟩;obtain⟨fl,qs,g,rs⟩:=i;obtain⟨o,FJ⟩:=(hp:DB fl qs g rs);have e:=o.fin;have J7:=e.has FJ;have XO:=e.be.nn _ _ J7;have KG:wd fl qs rs:=⟨o.s,(e.Cd _ J7).gd⟩;have xm:(A.deeper (fi "lowering_lifts" (aL tP) s.heap.objs.size f dX)).units+8 < cLine:=by have:=pN hr; omega
 have lf:1<=fl.lf/\fl.lf<=3:=o.s.ok.lf;have st:2<=fl.st/\fl.st<=4:=o.s.ok.st;have Bw:=sP fl rs fl.st.toNat;have b1:fl.lf.toNat * fl.st.toNat<=3 * 4:=ip (by omega) (by omega);have b2:fl.lf.toNat * fl.st.toNat * fl.st.toNat<=3 * 4 * 4:=ip b1 (by omega);have hlen:(lets fl rs).length<=48:=bg Bw b2;change WS _ M0 H (bo tP) [.im (g9 C fl qs), .im (rT rs), .im (oI (fO fl g))] {N:=fun _=>D.lst ((low fl g rs).map tD)= .non,R:=fun d'=>d'= .lst ((low fl g rs).map tD)};refine WS.one (W1.ret (ar.to (dF.toD (dF.compI (ds:=(lets fl rs).map tD) (f:=Qm (fO fl g) rs) (cs:= [oI (fO fl g),f9 rs]) (N':= ["lift","above","standing"]) (js:= [2,1])
  (dU.cap2 (pre:= [(".0", .local),("lift", .local),("moved", .globalImplicit)]) (mid:= []) (post:= []) (rn:= [(".0", .local),("lift", .local),("moved", .globalImplicit),("above", .cell),("standing", .cell)]) rfl (by decide +kernel) (by decide +kernel) (by decide +kernel) rfl rfl (by decide +kernel) (by decide +kernel) rfl (by decide +kernel) rfl rfl rfl rfl rfl rfl rfl rfl (by decide +kernel)) rfl (by decide +kernel)
  (iU.list (ar.call G1 hr (aP nx) rfl (fl,qs,rs) (aU.cons (nm 0 rfl rfl) (aU.cons (nm 1 rfl rfl) aU.nil)) KG rfl)) (M8 rfl rfl) (by rw [ae]; omega) ?_ ?_)) (d':= .lst ((low fl g rs).map tD)) (by rw [LF]; rfl)) rfl)
 ·intro C s₀ H₀ fp pins i d h1;rw [aA]at h1;cases et:(lets fl rs)[i]? with
  | none=>rw [et]at h1; cases h1
  | some t=>
   rw [et]at h1;cases h1;have hl:=(lB o.s.ok).mp (aR et);obtain⟨hc,mK⟩:=j4 hl;obtain⟨m,hm,_,_⟩:=e.nb o.s.ok J7 hl;have m0:=e.be.nn _ _ hm;refine cg.to (cg.cI .lt (ar.dget (k:=mv rs t) xm e.be.nd hm (nm 1 rfl rfl) (ar.call G2 (hr.mono (by decide)) (aP nx) rfl (rs,t) (aU.cons (nm 2 rfl rfl) (aU.cons (nm 0 rfl rfl) aU.nil)) (hc.mvOk (dS KG.g) KG.sm) rfl)) (ar.dget (k:=rs) xm e.be.nd J7 (nm 1 rfl rfl) (nm 2 rfl rfl))) ?_;show decide (m < nU (fO fl g) rs)=decide (nU (fO fl g) (mv rs t) < nU (fO fl g) rs);rw [e.ht hm]
 ·intro C s₀ H₀ fp pins i d h1;exact nm 0 rfl rfl
theorem Nd:bM ["floor","start","above","way","standing","lift"] ["floor","start","above"] (aL HK):=l8
variable (P w K mg base CX)in
abbrev NV(C:ai):Prop:=
 j6 P w K mg base CX 8 "way_down" (fun i:c5×dQ×Rows×Rows=> [g9 C i.1 i.2.1,rT i.2.2.2,oI (fO i.1 i.2.2.1)]) (fun i=>DB i.1 i.2.1 i.2.2.1 i.2.2.2) (fun i=> .ok (.lst ((way i.1 i.2.2.1 (nU (fO i.1 i.2.2.1) i.2.2.2).toNat i.2.2.2).map tD)))
theorem Oe{f:ai}{fd:bb}(nx:NX CX)(B:Bm mg)(G1:Ca P w K mg base CX C)(G2:rg P w K mg base CX)(F:ji K "way_down" "way_down" HK f fd)(hm:mg "way_down"=some (.ref f))(hb:Binds K fd ["floor","start","above"] []):NV P w K mg base CX C:=by
 refine eu F Nd hm hb (fun i=>rfl) fun dX A outer s H E i M0 hp hr=>⟨_,rfl, ?_⟩;obtain⟨fl,qs,g,rs⟩:=i;obtain⟨o,FJ⟩:=(hp:DB fl qs g rs);have e:=o.fin;have J7:=e.has FJ;have XO:=e.be.nn _ _ J7;have px:=Nd.nd;have xm:(A.deeper (fi "way_down" (aL HK) s.heap.objs.size f dX)).units+8 < cLine:=by have:=pN hr; omega
 change WS _ M0 H (bo HK) [.im (g9 C fl qs), .im (rT rs), .im (oI (fO fl g)), .un, .un, .un] {N:=fun _=>D.lst ((way fl g (nU (fO fl g) rs).toNat rs).map tD)= .non,R:=fun d'=>d'= .lst ((way fl g (nU (fO fl g) rs).toNat rs).map tD)};generalize nU (fO fl g) rs=z at J7 XO ⊢;obtain⟨N,rfl⟩: ∃N:Nat,z=(N:Int):=⟨z.toNat,by omega⟩;rw [cP];have hN:=e.low J7;refine WS.cons (W1.setF (i:=3) px rfl (.inl rfl) (fz rfl) (dF.lst aU.nil) ?_);refine WS.cons (W1.set (i:=4) px rfl (.inl rfl) (fz rfl) (nm 1 rfl rfl) ?_);refine WS.cons (W1.while (fun ρ=> ∃(ws:List jf) (r:Rows) (n:Nat) (a:Sl),ρ= [.im (g9 C fl qs), .im (rT rs), .im (oI (fO fl g)), .mu (ws.map tD), .im (rT r),a]/\(r,(n:Int))∈fO fl g/\ws ++ way fl g n r=way fl g N rs) (fun ρ=>N - M5 3 ρ) bu ⟨[],rs,N,_,rfl,J7,rfl⟩ ?_);rintro ρ ⟨ws,r,n,a,rfl,mj,hw⟩;have hl:ws.length+n=N:=by
  have:=congrArg eS hw;rw [aq,sX,sX]at this;exact this
 refine⟨_,cg.cI .gt (ar.dget (k:=r) xm e.be.nd mj (nm 2 rfl rfl) (nm 4 rfl rfl)) ar.int,fun h=> ?_,fun h=> ?_⟩
 ·have h0:=of_decide_eq_true h;obtain⟨m,rfl⟩: ∃m,n=m+1:=⟨n - 1,by omega⟩;obtain⟨t,rest,q1,q2,q3⟩:=zh o mj;obtain⟨hc,mK⟩:=j4 q2;have KG:wd fl qs r:=⟨o.s,(e.Cd _ mj).gd⟩;refine WS.cons (W1.set (i:=5) px rfl (.inl rfl) (fz rfl) (ar.ixL (d:=tD t) (ar.r (ar.call G1 hr (aP nx) rfl (fl,qs,g,r) (aU.cons (nm 0 rfl rfl) (aU.cons (nm 4 rfl rfl) (aU.cons (nm 2 rfl rfl) aU.nil))) ⟨o,aE.mpr ⟨_,mj,rfl⟩⟩ rfl)) ar.int (by rw [q1]; exact(pM (xs:=tD t::rest.map tD) (k:=0) (j:=0) rfl (by simp)).trans rfl)) ?_);refine WS.cons (W1.append (i:=3) rfl (.inl rfl) rfl (nm 5 rfl rfl) (by rw [ae]; omega) ?_ ⟨rfl,rfl,rfl,rfl⟩);refine WS.one (W1.set (i:=4) px rfl (.inl rfl) (fz rfl) (ar.call G2 (hr.mono (by decide)) (aP nx) rfl (r,t) (aU.cons (nm 4 rfl rfl) (aU.cons (nm 5 rfl rfl) aU.nil)) (hc.mvOk (dS KG.g) KG.sm) rfl) ?_);refine⟨⟨ws ++ [t],mv r t,m, .im (tD t),by rw [bw]; rfl,q3, ?_⟩, ?_⟩
  ·rw [<-hw,way,q1,aO];rfl
  ·show N - ((ws.map tD) ++ [tD t]).length < N - (ws.map tD).length;rw [aq,ae,cj];omega
 ·have h0:=of_decide_eq_false h;have:n=0:=by omega
  subst this;have e2:ws=way fl g N rs:=by rw [<-hw,way,bz]
  subst e2;exact WS.freeze (i:=3) rfl (WS.one (W1.ret (nm 3 rfl rfl) rfl))
end
theorem B_{P:aH}{w:aW}{K:Frag}{mg:Str->Option af}{base:aY}{C CS:ai}(G:yl P w K mg base C CS):yu P w K mg base (fP P w) C:=nA G fun i h=>⟨⟨h.s,h.sm⟩,if_pos h.g⟩
def AN(kv:o4):D:= .lst ((o8 jQ (kv.map (·.1))).map f9)
def yz(kv:o4):D:= .lst ((o8 mB kv).map Ng)
def Nh(CS CT:ai)(f:c5)(rows:Rows)(d:D):Except ai D:=if good f rows then(if rows.flatten.length<=4 then .ok d else .error CT)else .error CS
def wO(CS CO CT:ai)(f:c5)(start goal:Rows):Except ai D:=
 if good f start then
  if good f goal then
   if start.flatten.length<=4 then
    if o_ start.flatten=o_ goal.flatten then
     if start∈(fO f goal).map (·.1)then .ok (.tup [.str "plan", .lst ((way f goal (nU (fO f goal) start).toNat start).map tD)])
     else .ok (.tup [.str "shut",AN (fO f start)])
    else .error CO
   else .error CT
  else .error CS
 else .error CS
theorem Bv.one{f:c5}{g:Rows}(e:Bv f g)(ok:qm f): ∀x∈fO f g,x.1.length=f.st.toNat:=fun x hx=>by have:=dS (e.Cd x hx).gd; omega
section
variable {P:aH}{w:aW}{K:Frag}{mg:Str->Option af}{base:aY}{C CS CO CT:ai}
theorem nW{fl:c5}{qs:dQ}{rows:Rows}(hS:gu fl qs)(hg:good fl rows=true):rows.flatten.length < 64:=by
 have:=(pT hg hS.ok.st.2 hS.ok.ht.2).1;omega
theorem HC:bM ["floor","standing"] ["floor","standing"] (aL mG):=l8
variable (P w K mg base)in
abbrev tx(C CS CT:ai):Prop:=
 j6 P w K mg base (fP P w) 8 "come_to" (fun i:c5×dQ×Rows=> [g9 C i.1 i.2.1,rT i.2.2]) (fun i=>gu i.1 i.2.1/\Small i.2.2) (fun i=>Nh CS CT i.1 i.2.2 (AN (fO i.1 i.2.2)))
theorem Ft{f:ai}{fd:bb}(B:Bm mg)(G1:kI P w K mg base C CS)(G2:nJ P w K mg base CT)(G3:tV P w K mg base (fP P w) C)(F:ji K "come_to" "come_to" mG f fd)(hm:mg "come_to"=some (.ref f))(hb:Binds K fd ["floor","standing"] []):tx P w K mg base C CS CT:=by
 refine oS F HC hm hb (fun i=>rfl) fun dX A outer s H E i M0 hp hr=> ?_;obtain⟨fl,qs,rows⟩:=i;obtain⟨hS,sm⟩:gu fl qs/\Small rows:=hp;have nx:NX (fP P w):=kG;have xm:(A.deeper (fi "come_to" (aL mG) s.heap.objs.size f dX)).units+8 < cLine:=by have:=pN hr; omega
 have st:2<=fl.st/\fl.st<=4:=hS.ok.st
 by_cases hg:good fl rows=true
 ·by_cases h4:rows.flatten.length<=4
  ·refine .inl ⟨_,(if_pos hg).trans (if_pos h4), ?_⟩;have o:dE fl qs rows:=⟨hS,hg,h4⟩;have e:=o.fin;change WS _ M0 H (bo mG) [.im (g9 C fl qs), .im (rT rows)] {N:=fun _=>AN (fO fl rows)= .non,R:=fun d'=>d'=AN (fO fl rows)};refine WS.cons (W1.expr (ar.call G1 (hr.mono (by decide)) (aP nx) rfl (fl,qs,rows) (aU.cons (nm 0 rfl rfl) (aU.cons (nm 1 rfl rfl) aU.nil)) ⟨hS,sm⟩ (if_pos hg)) ?_);refine WS.cons (W1.expr (ar.call G2 (hr.mono (by decide)) (aP nx) rfl rows (aU.cons (nm 1 rfl rfl) aU.nil) (nW hS hg) (if_pos h4)) ?_);exact WS.one (W1.ret (dF.toD (dF.sortedDc (m:=fl.st.toNat) hr.hd xm e.be.nd (e.one hS.ok) (by omega) (by have:=e.len; unfold sizeLine; omega) rfl B.sorted (ar.call G3 hr (aP nx) rfl (fl,qs,rows) (aU.cons (nm 0 rfl rfl) (aU.cons (nm 1 rfl rfl) aU.nil)) o rfl))) rfl)
  ·refine .inr ⟨CT,(if_pos hg).trans (if_neg h4), ?_⟩;change f7 _ [.im (g9 C fl qs), .im (rT rows)] E (bo mG) CT;refine f7.expr (ar.call G1 (hr.mono (by decide)) (aP nx) rfl (fl,qs,rows) (aU.cons (nm 0 rfl rfl) (aU.cons (nm 1 rfl rfl) aU.nil)) ⟨hS,sm⟩ (if_pos hg)) ?_;exact f7.here (vW.expr (IF.call (i:=rows) G2 (hr.mono (by decide)) lg rfl (aU.cons (nm 1 rfl rfl) aU.nil) (nW hS hg) (if_neg h4)))
 ·refine .inr ⟨CS,if_neg hg, ?_⟩;change f7 _ [.im (g9 C fl qs), .im (rT rows)] E (bo mG) CS;exact f7.here (vW.expr (IF.call (i:=(fl,qs,rows)) G1 (hr.mono (by decide)) lg rfl (aU.cons (nm 0 rfl rfl) (aU.cons (nm 1 rfl rfl) aU.nil)) ⟨hS,sm⟩ (if_neg hg)))
theorem EN:bM ["floor","goal"] ["floor","goal"] (aL kH):=l8
variable (P w K mg base)in
abbrev qK(C CS CT:ai):Prop:=
 j6 P w K mg base (fP P w) 8 "heights" (fun i:c5×dQ×Rows=> [g9 C i.1 i.2.1,rT i.2.2]) (fun i=>gu i.1 i.2.1/\Small i.2.2) (fun i=>Nh CS CT i.1 i.2.2 (yz (fO i.1 i.2.2)))
theorem BW{f:ai}{fd:bb}(B:Bm mg)(G1:kI P w K mg base C CS)(G2:nJ P w K mg base CT)(G3:tV P w K mg base (fP P w) C)(F:ji K "heights" "heights" kH f fd)(hm:mg "heights"=some (.ref f))(hb:Binds K fd ["floor","goal"] []):qK P w K mg base C CS CT:=by
 refine oS F EN hm hb (fun i=>rfl) fun dX A outer s H E i M0 hp hr=> ?_;obtain⟨fl,qs,rows⟩:=i;obtain⟨hS,sm⟩:gu fl qs/\Small rows:=hp;have nx:NX (fP P w):=kG;have xm:(A.deeper (fi "heights" (aL kH) s.heap.objs.size f dX)).units+8 < cLine:=by have:=pN hr; omega
 by_cases hg:good fl rows=true
 ·by_cases h4:rows.flatten.length<=4
  ·refine .inl ⟨_,(if_pos hg).trans (if_pos h4), ?_⟩;have o:dE fl qs rows:=⟨hS,hg,h4⟩;have e:=o.fin;change WS _ M0 H (bo kH) [.im (g9 C fl qs), .im (rT rows)] {N:=fun _=>yz (fO fl rows)= .non,R:=fun d'=>d'=yz (fO fl rows)};refine WS.cons (W1.expr (ar.call G1 (hr.mono (by decide)) (aP nx) rfl (fl,qs,rows) (aU.cons (nm 0 rfl rfl) (aU.cons (nm 1 rfl rfl) aU.nil)) ⟨hS,sm⟩ (if_pos hg)) ?_);refine WS.cons (W1.expr (ar.call G2 (hr.mono (by decide)) (aP nx) rfl rows (aU.cons (nm 1 rfl rfl) aU.nil) (nW hS hg) (if_pos h4)) ?_);exact WS.one (W1.ret (dF.toD (dF.sortedIt (fun x hx=>by have:=e.be.nn x.1 x.2 hx; omega) hr.hd xm e.be.nd (by have:=e.len; unfold sizeLine; omega) rfl B.sorted (ar.call G3 hr (aP nx) rfl (fl,qs,rows) (aU.cons (nm 0 rfl rfl) (aU.cons (nm 1 rfl rfl) aU.nil)) o rfl))) rfl)
  ·refine .inr ⟨CT,(if_pos hg).trans (if_neg h4), ?_⟩;change f7 _ [.im (g9 C fl qs), .im (rT rows)] E (bo kH) CT;refine f7.expr (ar.call G1 (hr.mono (by decide)) (aP nx) rfl (fl,qs,rows) (aU.cons (nm 0 rfl rfl) (aU.cons (nm 1 rfl rfl) aU.nil)) ⟨hS,sm⟩ (if_pos hg)) ?_;exact f7.here (vW.expr (IF.call (i:=rows) G2 (hr.mono (by decide)) lg rfl (aU.cons (nm 1 rfl rfl) aU.nil) (nW hS hg) (if_neg h4)))
 ·refine .inr ⟨CS,if_neg hg, ?_⟩;change f7 _ [.im (g9 C fl qs), .im (rT rows)] E (bo kH) CS;exact f7.here (vW.expr (IF.call (i:=(fl,qs,rows)) G1 (hr.mono (by decide)) lg rfl (aU.cons (nm 0 rfl rfl) (aU.cons (nm 1 rfl rfl) aU.nil)) ⟨hS,sm⟩ (if_neg hg)))
theorem Jv:bM ["floor","start","goal","above"] ["floor","start","goal"] (aL mX):=l8
structure II(f:c5)(qs:dQ)(start goal:Rows):Prop where
 s:gu f qs
 a:Small start
 b:Small goal
variable (P w K mg base)in
abbrev wU(C CS CO CT:ai):Prop:=
 j6 P w K mg base (fP P w) 9 "plan" (fun i:c5×dQ×Rows×Rows=> [g9 C i.1 i.2.1,rT i.2.2.1,rT i.2.2.2]) (fun i=>II i.1 i.2.1 i.2.2.1 i.2.2.2) (fun i=>wO CS CO CT i.1 i.2.2.1 i.2.2.2)
theorem K6{f:ai}{fd:bb}(er:AB "OtherCrates" CO mg base)(B:Bm mg)(G1:kI P w K mg base C CS)(G2:nJ P w K mg base CT)(G3:tV P w K mg base (fP P w) C)(G4:oy P w K mg base (fP P w))(G5:NV P w K mg base (fP P w) C)(F:ji K "plan" "plan" mX f fd)(hm:mg "plan"=some (.ref f))(hb:Binds K fd ["floor","start","goal"] []):wU P w K mg base C CS CO CT:=by
 refine oS F Jv hm hb (fun i=>rfl) fun dX A outer s H E i M0 hp hr=> ?_;obtain⟨fl,qs,start,goal⟩:=i;obtain⟨hS,sa,sb⟩:II fl qs start goal:=hp;have nx:NX (fP P w):=kG;have px:=Jv.nd;have xm:(A.deeper (fi "plan" (aL mX) s.heap.objs.size f dX)).units+8 < cLine:=by have:=pN hr; omega
 have CM:=jB (pN hr);have st:2<=fl.st/\fl.st<=4:=hS.ok.st;show(∃d,wO CS CO CT fl start goal= .ok d/\_)\/ ∃C',wO CS CO CT fl start goal= .error C'/\_;unfold wO
 by_cases rC:good fl start=true
 ·by_cases mK:good fl goal=true
  ·by_cases h4:start.flatten.length<=4
   ·by_cases hc:o_ start.flatten=o_ goal.flatten
    ·rw [if_pos rC,if_pos mK,if_pos h4,if_pos hc];have o1:dE fl qs start:=⟨hS,rC,h4⟩;have o2:dE fl qs goal:=⟨hS,mK,by rw [<-(AJ hc).length_eq]; exact h4⟩;have e1:=o1.fin;have e2:=o2.fin;refine .inl ?_;have all: ∀{Q:Z.pJ},WS (zp P w K mg base ["floor","start","goal","above"] "plan" (aL mX) f dX A outer s H E).nox M0 H ((bo mX).drop 5) [.im (g9 C fl qs), .im (rT start), .im (rT goal), .im (oI (fO fl goal))] Q->WS (zp P w K mg base ["floor","start","goal","above"] "plan" (aL mX) f dX A outer s H E).nox M0 H (bo mX) [.im (g9 C fl qs), .im (rT start), .im (rT goal), .un] Q:=fun{Q} k=>by
      refine WS.cons (W1.expr (ar.call G1 (hr.mono (by decide)) (aP nx) rfl (fl,qs,start) (aU.cons (nm 0 rfl rfl) (aU.cons (nm 1 rfl rfl) aU.nil)) ⟨hS,sa⟩ (if_pos rC)) ?_);refine WS.cons (W1.expr (ar.call G1 (hr.mono (by decide)) (aP nx) rfl (fl,qs,goal) (aU.cons (nm 0 rfl rfl) (aU.cons (nm 2 rfl rfl) aU.nil)) ⟨hS,sb⟩ (if_pos mK)) ?_);refine WS.cons (W1.expr (ar.call G2 (hr.mono (by decide)) (aP nx) rfl start (aU.cons (nm 1 rfl rfl) aU.nil) (nW hS rC) (if_pos h4)) ?_);refine WS.cons (W1.ite (cg.ne CM (ar.r (ar.call G4 (hr.mono (by decide)) (aP nx) rfl start (aU.cons (nm 1 rfl rfl) aU.nil) (nW hS rC) rfl)) (ar.r (ar.call G4 (hr.mono (by decide)) (aP nx) rfl goal (aU.cons (nm 2 rfl rfl) aU.nil) (nW hS mK) rfl)) (oA 59 _) (oA 59 _)) (fun h=> ?_) fun h=>WS.nil ?_)
      ·rw [uV,decide_eq_true hc]at h;cases h
      ·exact WS.cons (W1.set (i:=3) px rfl (.inl rfl) (fz rfl) (ar.call G3 (hr.mono (by decide)) (aP nx) rfl (fl,qs,goal) (aU.cons (nm 0 rfl rfl) (aU.cons (nm 2 rfl rfl) aU.nil)) o2 rfl) k)
     by_cases hm:start∈(fO fl goal).map (·.1)
     ·refine⟨_,if_pos hm,all ?_⟩;refine WS.cons (W1.ite (cg.notInDc (k:=start) xm e2.be.nd (nm 1 rfl rfl) (nm 3 rfl rfl)) (fun h=> ?_) fun h=>WS.nil ?_)
      ·rw [decide_eq_true hm]at h;cases h
      ·exact WS.one (W1.ret (ar.tup (aU.cons ar.str (aU.cons (ar.call G5 hr (aP nx) rfl (fl,qs,goal,start) (aU.cons (nm 0 rfl rfl) (aU.cons (nm 1 rfl rfl) (aU.cons (nm 3 rfl rfl) aU.nil))) ⟨o2,hm⟩ rfl) aU.nil))) rfl)
     ·refine⟨_,if_neg hm,all ?_⟩;refine WS.cons (W1.ite (cg.notInDc (k:=start) xm e2.be.nd (nm 1 rfl rfl) (nm 3 rfl rfl)) (fun h=> ?_) fun h=>WS.nil ?_)
      ·exact WS.one (W1.ret (ar.tup (aU.cons ar.str (aU.cons (dF.toD (dF.sortedDc (m:=fl.st.toNat) hr.hd xm e1.be.nd (e1.one hS.ok) (by omega) (by have:=e1.len; unfold sizeLine; omega) rfl B.sorted (ar.call G3 (hr.mono (by decide)) (aP nx) rfl (fl,qs,start) (aU.cons (nm 0 rfl rfl) (aU.cons (nm 1 rfl rfl) aU.nil)) o1 rfl))) aU.nil))) rfl)
      ·rw [decide_eq_false hm]at h;cases h
    ·rw [if_pos rC,if_pos mK,if_pos h4,if_neg hc];refine .inr ⟨CO,rfl, ?_⟩;change f7 _ [.im (g9 C fl qs), .im (rT start), .im (rT goal), .un] E (bo mX) CO;refine f7.expr (ar.call G1 (hr.mono (by decide)) (aP nx) rfl (fl,qs,start) (aU.cons (nm 0 rfl rfl) (aU.cons (nm 1 rfl rfl) aU.nil)) ⟨hS,sa⟩ (if_pos rC)) ?_;refine f7.expr (ar.call G1 (hr.mono (by decide)) (aP nx) rfl (fl,qs,goal) (aU.cons (nm 0 rfl rfl) (aU.cons (nm 2 rfl rfl) aU.nil)) ⟨hS,sb⟩ (if_pos mK)) ?_;refine f7.expr (ar.call G2 (hr.mono (by decide)) (aP nx) rfl start (aU.cons (nm 1 rfl rfl) aU.nil) (nW hS rC) (if_pos h4)) ?_;refine f7.here (vW.ite (t:=true) (cg.to (cg.ne CM (ar.r (ar.call G4 (hr.mono (by decide)) (aP nx) rfl start (aU.cons (nm 1 rfl rfl) aU.nil) (nW hS rC) rfl)) (ar.r (ar.call G4 (hr.mono (by decide)) (aP nx) rfl goal (aU.cons (nm 2 rfl rfl) aU.nil) (nW hS mK) rfl)) (oA 59 _) (oA 59 _)) ?_) (fun _=>f7.here (vW.raise er rfl ar.str)) fun h=>by cases h);rw [uV,decide_eq_false hc];rfl
   ·rw [if_pos rC,if_pos mK,if_neg h4];refine .inr ⟨CT,rfl, ?_⟩;change f7 _ [.im (g9 C fl qs), .im (rT start), .im (rT goal), .un] E (bo mX) CT;refine f7.expr (ar.call G1 (hr.mono (by decide)) (aP nx) rfl (fl,qs,start) (aU.cons (nm 0 rfl rfl) (aU.cons (nm 1 rfl rfl) aU.nil)) ⟨hS,sa⟩ (if_pos rC)) ?_;refine f7.expr (ar.call G1 (hr.mono (by decide)) (aP nx) rfl (fl,qs,goal) (aU.cons (nm 0 rfl rfl) (aU.cons (nm 2 rfl rfl) aU.nil)) ⟨hS,sb⟩ (if_pos mK)) ?_;exact f7.here (vW.expr (IF.call (i:=start) G2 (hr.mono (by decide)) lg rfl (aU.cons (nm 1 rfl rfl) aU.nil) (nW hS rC) (if_neg h4)))
  ·rw [if_pos rC,if_neg mK];refine .inr ⟨CS,rfl, ?_⟩;change f7 _ [.im (g9 C fl qs), .im (rT start), .im (rT goal), .un] E (bo mX) CS;refine f7.expr (ar.call G1 (hr.mono (by decide)) (aP nx) rfl (fl,qs,start) (aU.cons (nm 0 rfl rfl) (aU.cons (nm 1 rfl rfl) aU.nil)) ⟨hS,sa⟩ (if_pos rC)) ?_;exact f7.here (vW.expr (IF.call (i:=(fl,qs,goal)) G1 (hr.mono (by decide)) lg rfl (aU.cons (nm 0 rfl rfl) (aU.cons (nm 2 rfl rfl) aU.nil)) ⟨hS,sb⟩ (if_neg mK)))
 ·rw [if_neg rC];refine .inr ⟨CS,rfl, ?_⟩;change f7 _ [.im (g9 C fl qs), .im (rT start), .im (rT goal), .un] E (bo mX) CS;exact f7.here (vW.expr (IF.call (i:=(fl,qs,start)) G1 (hr.mono (by decide)) lg rfl (aU.cons (nm 0 rfl rfl) (aU.cons (nm 1 rfl rfl) aU.nil)) ⟨hS,sa⟩ (if_neg rC)))
end
section
variable {P:aH}{w:aW}{K:Frag}{mg:Str->Option af}{base:aY}{CX:k_}
theorem L9:bM ["found"] ["found"] (aL Cm):=l8
variable (P w K mg base CX)in
abbrev Cv:Prop:=
 j6 P w K mg base CX 1 "_law_whole" (fun i:Int=> [.int i]) (fun _=>True) (fun _=> .ok (.bl true))
theorem Gy{f:ai}{fd:bb}(B:Bm mg)(F:ji K "_law_whole" "_law_whole" Cm f fd)(hm:mg "_law_whole"=some (.ref f))(hb:Binds K fd ["found"] []):Cv P w K mg base CX:=by
 refine eu F L9 hm hb (fun i=>rfl) fun dX A outer s H E i M0 hp hr=>⟨_,rfl, ?_⟩;refine WS.one (W1.ret (ar.and (ar.nH rfl B.nH rfl B.int (by decide +kernel) (.inl rfl) (ar.r (nm 0 rfl rfl)) rfl) fun _=>ar.one (ar.not (ar.nH rfl B.nH rfl B.bool (by decide +kernel) (.inr (.inl rfl)) (ar.r (nm 0 rfl rfl)) rfl))) ?_);show D.bl (qQ "int" (.int i)&& !qQ "bool" (.int i))=D.bl true;rw [Eb,zQ];rfl
theorem Dy:bM ["found","due","k"] ["found","due"] (aL xT):=l8
variable (P w K mg base CX)in
abbrev yq:Prop:=
 j6 P w K mg base CX 2 "_law_tuple" (fun r:List Int=> [.tup (r.map .int), .tup (r.map .int)]) (fun r=>r.length<=1000) (fun _=> .ok (.bl true))
theorem GY{f:ai}{fd:bb}(nx:NX CX)(B:Bm mg)(G:Cv P w K mg base CX)(F:ji K "_law_tuple" "_law_tuple" xT f fd)(hm:mg "_law_tuple"=some (.ref f))(hb:Binds K fd ["found","due"] []):yq P w K mg base CX:=by
 refine eu F Dy hm hb (fun i=>rfl) fun dX A outer s H E r M0 hp hr=>⟨_,rfl, ?_⟩;have qU:r.length<=1000:=hp;have px:=Dy.nd;change WS _ M0 H (bo xT) [.im (.tup (r.map .int)), .im (.tup (r.map .int)), .un] {N:=fun _=>D.bl true= .non,R:=fun d'=>d'= .bl true};refine WS.cons (W1.ite (fk.t (fk.or (cg.not (cg.val (ar.nH rfl B.nH rfl B.tuple (by decide +kernel) (.inr (.inr (.inr (.inl rfl)))) (ar.r (nm 0 rfl rfl)) rfl))) fun _=>fk.or1 (cg.cI .ne (ar.lenT rfl B.len (nm 0 rfl rfl)) (ar.lenT rfl B.len (nm 1 rfl rfl))))) (fun h=> ?_) fun h=>WS.nil ?_)
 ·rw [mF]at h;simp at h
 refine WS.cons (W1.for (ds:=jV 0 r.length) (fun i ρ=> ∃a,ρ= [.im (.tup (r.map .int)), .im (.tup (r.map .int)),a]) bu rfl (iU.to (iU.range rfl B.range (ar.lenT rfl B.len (nm 1 rfl rfl)) (by rw [ae]; omega)) (by rw [ae]; rfl)) ⟨_,rfl⟩ ?_ ?_)
 ·rintro i d ρ hd ⟨a,rfl⟩;obtain⟨rfl,hi⟩:=gE hd;refine⟨_,sW.name (i:=2) px rfl (.inl rfl) (fz rfl), ?_⟩;refine WS.one (W1.ite (fk.t (fk.or (cg.not (cg.val (ar.call G hr (aP nx) rfl (r.getD i 0) (aU.cons (ar.ixT (nm 0 rfl rfl) (nm 2 rfl rfl) (lX hi (by omega))) aU.nil) trivial rfl))) fun _=>fk.or1 (cg.cI .ne (ar.ixT (nm 0 rfl rfl) (nm 2 rfl rfl) (lX hi (by omega))) (ar.ixT (nm 1 rfl rfl) (nm 2 rfl rfl) (lX hi (by omega)))))) (fun h=> ?_) fun h=>WS.nil ⟨_,rfl⟩);simp at h
 ·rintro ρ ⟨a,rfl⟩;exact WS.one (W1.ret ar.bl rfl)
theorem zj:bM ["found","due","k"] ["found","due"] (aL sU):=l8
variable (P w K mg base CX)in
abbrev yp:Prop:=
 j6 P w K mg base CX 3 "_law_stands" (fun rows:Rows=> [.tup (bt true rows), .tup (bt true rows)]) (fun rows=>Small rows) (fun _=> .ok (.bl true))
theorem Fm{f:ai}{fd:bb}(nx:NX CX)(B:Bm mg)(G:yq P w K mg base CX)(F:ji K "_law_stands" "_law_stands" sU f fd)(hm:mg "_law_stands"=some (.ref f))(hb:Binds K fd ["found","due"] []):yp P w K mg base CX:=by
 refine eu F zj hm hb (fun i=>rfl) fun dX A outer s H E rows M0 hp hr=>⟨_,rfl, ?_⟩;have sm:Small rows:=hp;have sf:=sm.fl;have sn:=sm.n;have px:=zj.nd;have hl:(bt true rows).length=rows.length:=ae ..;change WS _ M0 H (bo sU) [.im (.tup (bt true rows)), .im (.tup (bt true rows)), .un] {N:=fun _=>D.bl true= .non,R:=fun d'=>d'= .bl true};refine WS.cons (W1.ite (fk.t (fk.or (cg.not (cg.val (ar.nH rfl B.nH rfl B.tuple (by decide +kernel) (.inr (.inr (.inr (.inl rfl)))) (ar.r (nm 0 rfl rfl)) rfl))) fun _=>fk.or1 (cg.cI .ne (ar.lenT rfl B.len (nm 0 rfl rfl)) (ar.lenT rfl B.len (nm 1 rfl rfl))))) (fun h=> ?_) fun h=>WS.nil ?_)
 ·rw [mF]at h;simp at h
 refine WS.cons (W1.for (ds:=jV 0 rows.length) (fun i ρ=> ∃a,ρ= [.im (.tup (bt true rows)), .im (.tup (bt true rows)),a]) bu rfl (iU.to (iU.range rfl B.range (ar.lenT rfl B.len (nm 1 rfl rfl)) (by rw [hl]; omega)) (by rw [hl]; rfl)) ⟨_,rfl⟩ ?_ ?_)
 ·rintro i d ρ hd ⟨a,rfl⟩;obtain⟨rfl,hi⟩:=gE hd;have h0:(0:Int)<=0+(i:Int):=by omega
  have h1:(0:Int)+(i:Int) < rows.length:=by omega
  have rl:=lS h0 h1;refine⟨_,sW.name (i:=2) px rfl (.inl rfl) (fz rfl), ?_⟩;refine WS.one (W1.ite (cg.not (cg.val (ar.call G hr (aP nx) rfl (rowAt rows (0+(i:Int))) (aU.cons (ar.ixT (nm 0 rfl rfl) (nm 2 rfl rfl) (lh h0 h1)) (aU.cons (ar.ixT (nm 1 rfl rfl) (nm 2 rfl rfl) (lh h0 h1)) aU.nil)) (show(rowAt rows (0+(i:Int))).length<=1000 by omega) rfl))) (fun h=> ?_) fun h=>WS.nil ⟨_,rfl⟩);cases h
 ·rintro ρ ⟨a,rfl⟩;exact WS.one (W1.ret ar.bl rfl)
end
section
variable {P:aH}{w:aW}{K:Frag}{mg:Str->Option af}{base:aY}{CX:k_}
theorem Au:bM ["standing","lift","rows","taken"] ["standing","lift"] (aL sR):=l8
variable (P w K mg base CX)in
abbrev mD:Prop:=
 j6 P w K mg base CX 1 "_law_behind" (fun i:Rows×jf=> [.tup (bt true i.1),tD i.2]) (fun i=>Jm i.1 i.2/\i.2.1≠i.2.2.1) (fun i=> .ok (.tup (bt true (mv i.1 i.2))))
theorem wC(rows:Rows)(i:Nat)(r:List Int):bt false (rows.set i r)=(bt false rows).set i (.lst (r.map .int)):=by
 unfold bt;rw [List.map_set];rfl
theorem nR{rows:Rows}{v:Int}(h0:0<=v)(h:v < rows.length):vY (bt false rows) v=some (.lst ((rowAt rows v).map .int)):=by
 have e:v=((v.toNat:Nat):Int):=by omega
 rw [e];refine xM ?_;unfold bt;rw [aA,jk h0 h];rfl
theorem Fx{f:ai}{fd:bb}(B:Bm mg)(F:ji K "_law_behind" "_law_behind" sR f fd)(hm:mg "_law_behind"=some (.ref f))(hb:Binds K fd ["standing","lift"] []):mD P w K mg base CX:=by
 refine eu F Au hm hb (fun i=>rfl) fun dX A outer s H E i M0 hp hr=>⟨_,rfl, ?_⟩;obtain⟨rows,a,b,n⟩:=i;obtain⟨⟨a0,a1,b0,b1,n0,nr,sm⟩,ne⟩:=(hp:Jm rows (a,b,n)/\a≠b);dsimp only at a0 a1 b0 b1 n0 nr;have px:=Au.nd;have sf:rows.flatten.length<=1000:=sm.fl;have ra:=lS a0 a1;have rb:=lS b0 b1;have Xg:(bt true rows).length=rows.length:=ae ..;have lF: ∀rs:Rows,(bt false rs).length=rs.length:=fun rs=>ae ..;have sn:rows.length<=1000:=sm.n;have ek:((rowAt rows a).length:Int) - n=(((rowAt rows a).length - n.toNat:Nat):Int):=by omega
 have ne2:a≠b:=ne;have ja:a.toNat≠b.toNat:=by omega
 change WS _ M0 H (bo sR) [.im (.tup (bt true rows)), .im (.tup [.int a, .int b, .int n]), .un, .un] {N:=fun _=>D.tup (bt true (mv rows (a,b,n)))= .non,R:=fun d'=>d'= .tup (bt true (mv rows (a,b,n)))};refine WS.cons (W1.comp (i:=2) (ds:=bt true rows) (es:=bt false rows) (cs:= []) (dU.closed (by decide +kernel) (by decide +kernel) rfl (by decide +kernel) rfl) rfl (by decide +kernel) (iU.tup (nm 0 rfl rfl)) rh (by rw [Xg,lF]) (by rw [Xg]; omega) ?_ px rfl rfl (fz rfl) ?_)
 ·intro C s₀ H₀ fp pins i d e h1 h2;obtain⟨r,mj,rfl⟩:=fG h1;obtain⟨r2,yP,rfl⟩:=fG h2;rw [mj]at yP;cases yP;exact dF.toD (dF.listS (t:=true) rfl B.list (nm 0 rfl rfl))
 refine WS.cons (W1.set (i:=3) (d:= .lst (((rowAt rows a).drop ((rowAt rows a).length - n.toNat)).map .int)) px rfl (.inl rfl) (fz rfl) (ar.to (dF.toD (dF.cutL (ar.r (ar.ixL (zr 2 rfl rfl) (ar.ixT (nm 1 rfl rfl) ar.int rfl) (nR a0 a1))) (tK.some (ar.to (ar.sub (ar.lenL rfl B.len (ar.r (ar.ixL (zr 2 rfl rfl) (ar.ixT (nm 1 rfl rfl) ar.int rfl) (nR a0 a1)))) (ar.ixT (nm 1 rfl rfl) ar.int rfl)) (by rw [ae,ek]))) tK.none)) (by rw [BY (by rw [ae]; omega),Bq])) ?_);change WS _ M0 H _ [.im (.tup (bt true rows)), .im (.tup [.int a, .int b, .int n]), .mu (bt false rows), .im (.lst (((rowAt rows a).drop ((rowAt rows a).length - n.toNat)).map .int))] _;refine WS.cons (W1.setIx (i:=2) (n:=a.toNat) (d:= .lst (((rowAt rows a).take ((rowAt rows a).length - n.toNat)).map .int)) rfl (.inl rfl) rfl (ar.to (dF.toD (dF.cutL (ar.r (ar.ixL (zr 2 rfl rfl) (ar.ixT (nm 1 rfl rfl) ar.int rfl) (nR a0 a1))) tK.none (tK.some (ar.to (ar.sub (ar.lenL rfl B.len (ar.r (ar.ixL (zr 2 rfl rfl) (ar.ixT (nm 1 rfl rfl) ar.int rfl) (nR a0 a1)))) (ar.ixT (nm 1 rfl rfl) ar.int rfl)) (by rw [ae,ek]))))) (by rw [Gw (by rw [ae]; omega),List.map_take])) (ar.ixT (nm 1 rfl rfl) ar.int rfl) (by omega) (by rw [lF]; omega) ?_);dsimp only;rw [<-wC];change WS _ M0 H _ [.im (.tup (bt true rows)), .im (.tup [.int a, .int b, .int n]), .mu (bt false (rows.set a.toNat ((rowAt rows a).take ((rowAt rows a).length - n.toNat)))), .im (.lst (((rowAt rows a).drop ((rowAt rows a).length - n.toNat)).map .int))] _;have eb:rowAt (rows.set a.toNat ((rowAt rows a).take ((rowAt rows a).length - n.toNat))) b=rowAt rows b:=by
  unfold rowAt;rw [aS,eZ,if_neg ja,aS]
 refine WS.cons (W1.setIx (i:=2) (n:=b.toNat) (d:= .lst ((rowAt rows b ++ (rowAt rows a).drop ((rowAt rows a).length - n.toNat)).map .int)) rfl (.inl rfl) rfl (ar.to (dF.toD (dF.cat (ar.r (ar.ixL (zr 2 rfl rfl) (ar.ixT (nm 1 rfl rfl) ar.int rfl) (nR b0 (by rw [bF]; exact b1)))) (ar.r (nm 3 rfl rfl)) (by rw [eb,ae,ae,bq]; omega))) (by rw [eb,bw])) (ar.ixT (nm 1 rfl rfl) ar.int rfl) (by omega) (by rw [lF,bF]; omega) ?_);dsimp only;rw [<-wC];refine WS.freeze (i:=2) rfl (WS.one (W1.ret (ar.tupleL rfl B.tuple (ar.r (dF.toD (dF.comp (ds:=bt false (mv rows (a,b,n))) (es:=bt true (mv rows (a,b,n))) (cs:= []) (dU.closed (by decide +kernel) (by decide +kernel) rfl (by decide +kernel) rfl) rfl (by decide +kernel) (iU.list (nm 2 rfl rfl)) rh (by rw [iM,iM]) (by rw [iM,Cj]; omega) ?_)))) rfl));intro C s₀ H₀ fp pins i d e h1 h2;obtain⟨r,mj,rfl⟩:=fG h1;obtain⟨r2,yP,rfl⟩:=fG h2;rw [mj]at yP;cases yP;exact ar.tupleS (t:=false) rfl B.tuple (nm 0 rfl rfl)
end
theorem AE(f:c5)(rows:Rows)(a b m:Nat)(h: ∀j,m<=j->isLet f rows (tj a b j)=false): ∀k,vJ f rows a b (m+k)=vJ f rows a b m
 | 0=>rfl
 | k+1=>by rw [show m+(k+1)=(m+k)+1 from rfl,nz,h (m+k) (MQ _ _),AE f rows a b m h k]; simp
section
variable {P:aH}{w:aW}{K:Frag}{mg:Str->Option af}{base:aY}{CX:k_}
theorem uk:bM ["floor","standing","found","a","b","many","lift"] ["floor","standing"] (aL oK):=l8
variable (P w K mg base CX)in
abbrev kF:Prop:=
 j6 P w K mg base CX 2 "_law_lifts" (fun i:c5×Rows=> [i.1.d, .tup (bt true i.2)]) (fun i=>qm i.1/\good i.1 i.2=true) (fun i=> .ok (.lst ((lets i.1 i.2).map tD)))
theorem Ax{f:ai}{fd:bb}(nx:NX CX)(B:Bm mg)(G1:zk P w K mg base CX)(G2:mD P w K mg base CX)(F:ji K "_law_lifts" "_law_lifts" oK f fd)(hm:mg "_law_lifts"=some (.ref f))(hb:Binds K fd ["floor","standing"] []):kF P w K mg base CX:=by
 refine eu F uk hm hb (fun i=>rfl) fun dX A outer s H E i M0 hp hr=>⟨_,rfl, ?_⟩;obtain⟨fl,rows⟩:=i;obtain⟨hF,O8⟩:qm fl/\good fl rows=true:=hp;have px:=uk.nd;have st:=hF.st;have lf:=hF.lf;have gl:=dS O8;have gs:=pT O8 hF.st.2 hF.ht.2;have sm:Small rows:=⟨by omega,by omega⟩;have RO:fl.lf.toNat<=3:=by omega
 have VN:fl.st.toNat<=4:=by omega
 have b1:fl.lf.toNat * fl.st.toNat<=12:=ip RO VN;change WS _ M0 H (bo oK) [.im fl.d, .im (.tup (bt true rows)), .un, .un, .un, .un, .un] {N:=fun _=>D.lst ((lets fl rows).map tD)= .non,R:=fun d'=>d'= .lst ((lets fl rows).map tD)};refine WS.cons (W1.setF (i:=2) px rfl (.inl rfl) (fz rfl) (dF.lst aU.nil) ?_);refine WS.cons (W1.for (ds:=jV 0 fl.st.toNat) (fun i ρ=> ∃a b c d,ρ= [.im fl.d, .im (.tup (bt true rows)), .mu ((ya fl rows i).map tD),a,b,c,d]) bu rfl (iU.range rfl B.range (ar.ixT (nm 0 rfl rfl) ar.int rfl) (by omega)) ⟨_,_,_,_,rfl⟩ ?_ ?_)
 ·rintro i d ρ hd ⟨a,b,c,d',rfl⟩;obtain⟨rfl,hi⟩:=gE hd;have Bw:=sP fl rows i;have b2:fl.lf.toNat * fl.st.toNat * i<=12 * 4:=ip b1 (by omega);have i0:(0:Int)<=0+(i:Int):=by omega
  have i1:(0:Int)+(i:Int) < rows.length:=by omega
  refine⟨_,sW.name (i:=3) px rfl (.inl rfl) (fz rfl), ?_⟩;refine WS.one (W1.for (ds:=jV 0 fl.st.toNat) (fun j ρ=> ∃b c d,ρ= [.im fl.d, .im (.tup (bt true rows)), .mu ((ya fl rows i ++ wN fl rows i j).map tD), .im (.int (0+(i:Int))),b,c,d]) bu rfl (iU.range rfl B.range (ar.ixT (nm 0 rfl rfl) ar.int rfl) (by omega)) ⟨_,_,_,by rw [show wN fl rows i 0= []from rfl,bz]; rfl⟩ ?_ ?_)
  ·rintro j d ρ hd ⟨b,c,d',rfl⟩;obtain⟨rfl,hj⟩:=gE hd;have zb:=s_ fl rows i j;have b3:fl.lf.toNat * j<=3 * 4:=ip RO (by omega);have mn:least fl.lf ((rowAt rows (0+(i:Int))).length:Int)=(((least fl.lf ((rowAt rows (0+(i:Int))).length:Int)).toNat:Nat):Int):=by unfold least; split <;> omega
   have ZI:(least fl.lf ((rowAt rows (0+(i:Int))).length:Int)).toNat<=fl.lf.toNat/\(least fl.lf ((rowAt rows (0+(i:Int))).length:Int)).toNat<=(rowAt rows (0+(i:Int))).length:=by unfold least; split <;> omega
   have W8: ∀k,(least fl.lf ((rowAt rows (0+(i:Int))).length:Int)).toNat<=k->isLet fl rows (tj i j k)=false:=fun k hk=>by
    cases e:isLet fl rows (tj i j k)with
    | false=>rfl
    | true=>
     have hc:Kt fl rows (tj i j k):=kq.mp (by unfold isLet at e; rw [bN]at e; exact e.1);have c1:(1:Int)+(k:Int)<=fl.lf:=hc.nl;have c2:(1:Int)+(k:Int)<=(rowAt rows (0+(i:Int))).length:=hc.nr;have:least fl.lf ((rowAt rows (0+(i:Int))).length:Int)<=(k:Int):=by omega
     unfold least at this
     split at this <;> omega
   generalize hmm:(least fl.lf ((rowAt rows (0+(i:Int))).length:Int)).toNat=m at mn ZI W8;have e3:vJ fl rows i j fl.lf.toNat=vJ fl rows i j m:=by
    have:=AE fl rows i j m W8 (fl.lf.toNat - m)
    rwa [show m+(fl.lf.toNat - m)=fl.lf.toNat by omega]at this
   refine⟨_,sW.name (i:=4) px rfl (.inl rfl) (fz rfl), ?_⟩;refine WS.one (W1.for (ds:=jV 1 m) (fun k ρ=> ∃c d,ρ= [.im fl.d, .im (.tup (bt true rows)), .mu ((ya fl rows i ++ wN fl rows i j ++ vJ fl rows i j k).map tD), .im (.int (0+(i:Int))), .im (.int (0+(j:Int))),c,d]) bu rfl
    (iU.to (iU.range2 (i:=1) (j:=1+(m:Int)) rfl B.range ar.int (ar.add ar.int (ar.to (LR (i:=fl.lf) (j:=((rowAt rows (0+(i:Int))).length:Int)) rfl rfl B.min (ar.ixT (nm 0 rfl rfl) ar.int rfl) (ar.to (ar.lenS (t:=true) rfl B.len (ar.ixT (nm 1 rfl rfl) (nm 3 rfl rfl) (lh i0 i1))) (by rw [ae]))) (congrArg D.int mn))) (by omega)) (by congr 1; omega)) ⟨_,_,by rw [show vJ fl rows i j 0= []from rfl,bz]; rfl⟩ ?_ ?_)
   ·rintro k d ρ hd ⟨c,d',rfl⟩;obtain⟨rfl,hk⟩:=gE hd;have ZJ:=xJ fl rows i j k;refine⟨_,sW.name (i:=5) px rfl (.inl rfl) (fz rfl), ?_⟩;refine WS.cons (W1.set (i:=6) px rfl (.inl rfl) (fz rfl) (ar.tup (aU.cons (nm 3 rfl rfl) (aU.cons (nm 4 rfl rfl) (aU.cons (nm 5 rfl rfl) aU.nil)))) ?_);change WS _ M0 H _ [.im fl.d, .im (.tup (bt true rows)), .mu ((ya fl rows i ++ wN fl rows i j ++ vJ fl rows i j k).map tD), .im (.int (0+(i:Int))), .im (.int (0+(j:Int))), .im (.int (1+(k:Int))), .im (tD (tj i j k))] _;have S5:i≠j->Kt fl rows (tj i j k):=fun O_=>⟨i0,by show(0:Int)+(i:Int) < fl.st; omega,by show(0:Int)<=0+(j:Int); omega,by show(0:Int)+(j:Int) < fl.st; omega,by show(0:Int)+(i:Int)≠0+(j:Int); omega,by show(1:Int)<=1+(k:Int); omega,by show(1:Int)+(k:Int)<=fl.lf; omega,by show(1:Int)+(k:Int)<=(rowAt rows (0+(i:Int))).length; omega⟩;have Zw:(!decide ((0:Int)+(i:Int)=0+(j:Int))&&good fl (mv rows (tj i j k)))=isLet fl rows (tj i j k):=by
     unfold isLet;congr 1
     by_cases O_:i=j
     ·rw [decide_eq_true (by omega)];cases e:n9 fl rows (tj i j k)with
      | false=>rfl
      | true=>exact absurd (show(0:Int)+(i:Int)=0+(j:Int) by omega) (kq.mp e).ne
     ·rw [decide_eq_false (by omega),kq.mpr (S5 O_)];rfl
    refine WS.one (W1.ite (cg.to (fk.t (fk.and (cg.cI .ne (nm 3 rfl rfl) (nm 4 rfl rfl)) fun ja=>fk.and1 (cg.val (ar.call G1 hr (aP nx) rfl (fl,true,mv rows (tj i j k)) (aU.cons (nm 0 rfl rfl) (aU.cons (ar.call G2 hr (aP nx) rfl (rows,tj i j k) (aU.cons (nm 1 rfl rfl) (aU.cons (nm 6 rfl rfl) aU.nil)) ?_ rfl) aU.nil)) ?_ rfl)))) Zw) (fun h=> ?_) fun h=>WS.nil ?_)
    ·have O_:i≠j:=fun z=>by simp [z]at ja
     exact⟨(S5 O_).mvOk gl sm,(S5 O_).ne⟩
    ·have O_:i≠j:=fun z=>by simp [z]at ja
     have s2:=zZ gl (S5 O_) sm;exact⟨show(mv rows (tj i j k)).flatten.length < 4000 by have:=s2.fl; omega,show(mv rows (tj i j k)).length < 4000 by have:=s2.n; omega⟩
    ·refine WS.one (W1.append (i:=2) rfl (.inl rfl) rfl (nm 6 rfl rfl) (by rw [ae,aq,aq]; omega) ?_ ⟨rfl,rfl,rfl,rfl⟩);have e:(ya fl rows i ++ wN fl rows i j ++ vJ fl rows i j (k+1)).map tD=(ya fl rows i ++ wN fl rows i j ++ vJ fl rows i j k).map tD ++ [tD (tj i j k)]:=by
      rw [nz,if_pos h, <-aO,bw (l₂:= [tj i j k])];rfl
     exact⟨_,_,by rw [e]; rfl⟩
    ·dsimp only;rw [nz,if_neg (by rw [h]; exact aG),bz];exact⟨_,_,rfl⟩
   ·rintro ρ ⟨c,d,rfl⟩;rw [f_];dsimp only;rw [uP, <-aO,e3];exact⟨_,_,_,rfl⟩
  ·rintro ρ ⟨b,c,d,rfl⟩;rw [f_];dsimp only;rw [uN];exact⟨_,_,_,_,rfl⟩
 ·rintro ρ ⟨a,b,c,d,rfl⟩;rw [f_];exact WS.freeze (i:=2) rfl (WS.one (W1.ret (nm 2 rfl rfl) rfl))
end
end K
namespace Z
open PySem PySem.Spec PyProof.Rows L2
def constsOf:List Expr->Option (List Int)
 | []=>some []
 | .Constant (.int i) _ _::es=>(constsOf es).map (i:: ·)
 | _=>none
theorem aU.consts{X:Cx}{ρ:fB}: ∀{es:List Expr} {ns:List Int},constsOf es=some ns->aU X ρ es (ns.map .int)
 | [],ns,h=>by cases h; exact aU.nil
 | e::es,ns,h=>by
  unfold constsOf at h
  split at h
  ·rename_i e1; cases e1
  ·rename_i i k p qS e1;cases e1;cases q:constsOf es with
   | none=>rw [q]at h; cases h
   | some l=>
    rw [q]at h;cases h;exact aU.cons ar.int (aU.consts q)
  ·cases h
end Z
namespace K
open PySem L2 Z
theorem tY(f:c5): ∀(m:Nat) (cell:Int) (rows:Rows) (left:List Int),(pI f m cell rows left).flatten.length<=rows.flatten.length+m
 | 0,_,_,_=>ay _
 | m+1,cell,rows,left=>by
  unfold pI;dsimp only;refine bg (tY f m _ _ _) ?_;have:=(place_len f ((cell * 48271+17) % 2147483647) rows (left.getD (((cell * 48271+17) % 2147483647) / 7 % left.length).toNat 0) f.st.toNat).2
  split at this <;> omega
theorem my(f:c5)(cell:Int)(crates:List Int):(dW f cell crates).flatten.length<=crates.length:=by
 have:=tY f crates.length cell (fD f.st.toNat []) crates;have e:(fD f.st.toNat ([]:List Int)).flatten= []:=by simp
 rw [e]at this;unfold dW;simpa using this
def wY(c:Int):Int:= [0,1,2,3,3,2,3,4].getD c.toNat 0
theorem uC(c:Int):vY [D.int 0, .int 1, .int 2, .int 3, .int 3, .int 2, .int 3, .int 4] (c % 8)=some (.int (wY (c % 8)))/\0<=wY (c % 8)/\wY (c % 8)<=4:=by
 have h0:=iW c (show(8:Int)≠0 by decide);have h1:=gK c (show(0:Int) < 8 by decide);have:c % 8=0\/c % 8=1\/c % 8=2\/c % 8=3\/c % 8=4\/c % 8=5\/c % 8=6\/c % 8=7:=by omega
 rcases this with e | e | e | e | e | e | e | e <;> rw [e] <;> exact⟨rfl,by decide,by decide⟩
def lD(ns:List Int)(first:Nat)(f:c5):Int:=if(decide (f.st=3)&&decide (0 < cellAt ns first / 72 % 4)) || decide (f.st=4)then least (wY (cellAt ns first % 8)) 2 else wY (cellAt ns first % 8)
def jt(ns:List Int)(first:Nat)(f:c5):Int:=if f.st=3 then least (lD ns first f) 3 else lD ns first f
def small(ns:List Int)(first:Nat)(f:c5):List Int:=(bj (jt ns first f).toNat).map fun(k:Nat)=>cellAt ns first / 8 % 3+(0+(k:Int))
theorem xk{a b:Int}(ha:0<=a/\a<=4)(hb:0<=b):0<=least a b/\least a b<=4:=by unfold least; split <;> omega
theorem u7(ns:List Int)(first:Nat)(f:c5):0<=lD ns first f/\lD ns first f<=4:=by
 unfold lD
 split
 ·exact xk (uC _).2 (by decide)
 ·exact(uC _).2
theorem pQ(ns:List Int)(first:Nat)(f:c5):0<=jt ns first f/\jt ns first f<=4:=by
 unfold jt
 split
 ·exact xk (u7 _ _ _) (by decide)
 ·exact u7 _ _ _
theorem Fy(ns:List Int)(first:Nat)(f:c5):(small ns first f).length<=4:=by
 unfold small;rw [ae,bS];have:=pQ ns first f;omega
section
variable {P:aH}{w:aW}{K:Frag}{mg:Str->Option af}{base:aY}{CX:k_}
theorem DX:bM ["script","first","floor","many","names"] ["script","first","floor"] (aL yH):=l8
variable (P w K mg base CX)in
abbrev CF:Prop:=
 j6 P w K mg base CX 2 "_law_small" (fun i:List Int×Nat×c5=> [.lst (i.1.map .int), .int i.2.1,i.2.2.d]) (fun _=>True) (fun i=> .ok (.lst ((small i.1 i.2.1 i.2.2).map .int)))
set_option maxHeartbeats 4000000 in
theorem Iq{f:ai}{fd:bb}(nx:NX CX)(B:Bm mg)(G1:wL P w K mg base CX)(F:ji K "_law_small" "_law_small" yH f fd)(hm:mg "_law_small"=some (.ref f))(hb:Binds K fd ["script","first","floor"] []):CF P w K mg base CX:=by
 refine eu F DX hm hb (fun i=>rfl) fun dX A outer s H E i M0 hp hr=>⟨_,rfl, ?_⟩;obtain⟨ns,first,fl⟩:=i;have px:=DX.nd;obtain⟨p1,p2,p3⟩:=uC (cellAt ns first);obtain⟨r1,r2⟩:=pQ ns first fl;change WS _ M0 H (bo yH) [.im (.lst (ns.map .int)), .im (.int first), .im fl.d, .un, .un] {N:=fun _=>D.lst ((small ns first fl).map .int)= .non,R:=fun d'=>d'= .lst ((small ns first fl).map .int)};refine WS.cons (W1.set (i:=3) (d:= .int (wY (cellAt ns first % 8))) px rfl (.inl rfl) (fz rfl) (ar.ixL (ar.r (dF.toD (dF.lst (aU.consts (ns:= [0,1,2,3,3,2,3,4]) rfl)))) (ar.mod (ar.call G1 hr (aP nx) rfl (ns,first) (aU.cons (nm 0 rfl rfl) (aU.cons (nm 1 rfl rfl) aU.nil)) trivial rfl) ar.int (by decide)) p1) ?_);refine WS.cons (P:=_) (W1.imp (P:={N:=fun ma=>ma= [.im (.lst (ns.map .int)), .im (.int first), .im fl.d, .im (.int (lD ns first fl)), .un],R:=fun _=>False}) (W1.ite (fk.t (fk.or (fk.t (fk.and (cg.cI .eq (ar.ixT (nm 2 rfl rfl) ar.int rfl) ar.int) fun _=>fk.and1 (cg.cI .gt (ar.mod (ar.fdiv (ar.call G1 hr (aP nx) rfl (ns,first) (aU.cons (nm 0 rfl rfl) (aU.cons (nm 1 rfl rfl) aU.nil)) trivial rfl) ar.int ⟨by decide,by decide⟩) ar.int (by decide)) ar.int))) fun _=>fk.or1 (cg.cI .eq (ar.ixT (nm 2 rfl rfl) ar.int rfl) ar.int))) (fun h=>WS.one (W1.set (i:=3) px rfl (.inl rfl) (fz rfl) (LR rfl rfl B.min (nm 3 rfl rfl) ar.int) ?_)) fun h=>WS.nil ?_) ?_ (fun _ z=>z.elim) (fun _ z=>z.elim) fun _ z=>z.elim)
 ·show _=_;unfold lD;rw [if_pos h];rfl
 ·show _=_;unfold lD;rw [if_neg (by rw [h]; exact aG)];rfl
 rintro ρ rfl;refine WS.cons (P:=_) (W1.imp (P:={N:=fun ma=>ma= [.im (.lst (ns.map .int)), .im (.int first), .im fl.d, .im (.int (jt ns first fl)), .un],R:=fun _=>False}) (W1.ite (cg.cI .eq (ar.ixT (nm 2 rfl rfl) ar.int rfl) ar.int) (fun h=>WS.one (W1.set (i:=3) px rfl (.inl rfl) (fz rfl) (LR rfl rfl B.min (nm 3 rfl rfl) ar.int) ?_)) fun h=>WS.nil ?_) ?_ (fun _ z=>z.elim) (fun _ z=>z.elim) fun _ z=>z.elim)
 ·show _=_;unfold jt;rw [if_pos (of_decide_eq_true h)];rfl
 ·show _=_;unfold jt;rw [if_neg (of_decide_eq_false h)]
 rintro ρ rfl;refine WS.cons (W1.comp (i:=4) (ds:=jV 0 (jt ns first fl).toNat) (es:=(small ns first fl).map .int) (cs:= [.int first, .lst (ns.map .int)]) (N':= ["k","first","script"]) (js:= [1,0])
  (dU.cap2 (pre:= [(".0", .local),("k", .local),("_law_cell_at", .globalImplicit)]) (mid:= []) (post:= []) (rn:= [(".0", .local),("k", .local),("_law_cell_at", .globalImplicit),("first", .cell),("script", .cell)]) rfl (by decide +kernel) (by decide +kernel) (by decide +kernel) rfl rfl (by decide +kernel) (by decide +kernel) rfl (by decide +kernel) rfl rfl rfl rfl rfl rfl rfl rfl (by decide +kernel)) rfl (by decide +kernel)
  (iU.range rfl B.range (nm 3 rfl rfl) (by omega)) (M8 rfl rfl) (by unfold small; rw [ae,ae,bS,f_]) (by rw [f_]; omega) ?_ px rfl rfl (fz rfl) ?_)
 ·intro C s₀ H₀ fp pins i d e h1 h2;obtain⟨rfl,hi⟩:=gE h1;unfold small at h2;rw [aA,aA,Gk hi]at h2;cases h2;exact ar.add (ar.mod (ar.fdiv (ar.call G1 hr (aP nx) rfl (ns,first) (aU.cons (nm 2 rfl rfl) (aU.cons (nm 1 rfl rfl) aU.nil)) trivial rfl) ar.int ⟨by decide,by decide⟩) ar.int (by decide)) (nm 0 rfl rfl)
 ·exact WS.freeze (i:=4) rfl (WS.one (W1.ret (nm 4 rfl rfl) rfl))
end
end K
namespace Z
theorem uW: ∀a:List (List Int),(a.map eS).sum=a.flatten.length
 | []=>rfl
 | x::a=>by rw [a9,List.sum_cons,cO,aq,uW a]
theorem AK: ∀{a b:List Nat},a.length=b.length->a.dropLast=b.dropLast->a.sum=b.sum->a=b
 | [], [],_,_,_=>rfl
 | [],_::_,h,_,_=>by simp at h
 | _::_, [],h,_,_=>by simp at h
 | [x], [y],_,_,h=>by simpa using h
 | [_],_::_::_,h,_,_=>by simp at h
 | _::_::_, [_],h,_,_=>by simp at h
 | x::x2::a,y::y2::b,h,hd,hs=>by
  rw [List.dropLast_cons₂,List.dropLast_cons₂]at hd;injection hd with e1 e2;subst e1;have:=AK (a:=x2::a) (b:=y2::b) (by simpa using h) e2 (by simpa using hs);rw [this]
theorem yg{c:List Int}: ∀{u v:List Int},(∀x∈u,x∈c)->(∀x∈v,x∈c)->u.map c.idxOf=v.map c.idxOf->u=v
 | [], [],_,_,_=>rfl
 | [],_::_,_,_,h=>by simp at h
 | _::_, [],_,_,h=>by simp at h
 | x::u,y::v,hu,hv,h=>by
  rw [a9,a9]at h;injection h with e1 e2;have h1:=List.getElem_idxOf (xw (hu x (.head _)));have h2:=List.getElem_idxOf (xw (hv y (.head _)));have:x=y:=by
   rw [<-h1, <-h2];congr 1
  rw [this,yg (fun z hz=>hu z (.tail _ hz)) (fun z hz=>hv z (.tail _ hz)) e2]
def noTwice(n:Nat):List (List Nat):=(words (bj n) n).filter fun w=>decide w.Nodup
theorem Md{c:List Int}{m:Nat}(cn:c.Nodup)(hm:(m=2/\c.length<=4)\/(m=3/\c.length<=3)\/(m=4/\c.length<=2)){kv:List (List (List Int)×Int)}(nd:(kv.map (·.1)).Nodup)(h: ∀x∈kv,Of c m x.1):kv.length<=120:=by
 have e:(kv.map (·.1)).length=kv.length:=ae _;have hk: ∀k∈kv.map (·.1),Of c m k:=fun k hk=>by
  obtain⟨p,hp,rfl⟩:=aE.mp hk;exact h p hp
 have Ro:((kv.map (·.1)).map fun k=>(k.flatten.map c.idxOf,(k.map eS).dropLast)).Nodup:=by
  refine dq.mpr (nd.imp_of_mem fun{a b} ha hb qV z=>qV ?_);obtain⟨a1,a2⟩:=hk a ha;obtain⟨b1,b2⟩:=hk b hb;have e1:=yg (fun x hx=>a1.mem_iff.mp hx) (fun x hx=>b1.mem_iff.mp hx) (k7.mp z).1;refine xF e1 (AK (by rw [ae,ae,a2,b2]) (k7.mp z).2 ?_);rw [uW,uW,e1]
 have sub: ∀x∈(kv.map (·.1)).map (fun k=>(k.flatten.map c.idxOf,(k.map eS).dropLast)),x∈(noTwice c.length).flatMap fun u=>(words (bj (c.length+1)) (m - 1)).map fun v=>(u,v):=fun x hx=>by
  obtain⟨k,kW,rfl⟩:=aE.mp hx;obtain⟨h1,h2⟩:=hk k kW;refine vH.mpr ⟨_,kM.mpr ⟨l9 (by rw [ae]; exact h1.length_eq) fun y hy=> ?_,decide_eq_true ?_⟩,aE.mpr ⟨_,l9 (by rw [List.length_dropLast,ae,h2]) fun y hy=> ?_,rfl⟩⟩
  ·obtain⟨z,hz,rfl⟩:=aE.mp hy;exact cy.mpr (xw (h1.mem_iff.mp hz))
  ·refine dq.mpr ((h1.nodup_iff.mpr cn).imp_of_mem fun{a b} ha hb qV z=>qV ?_);have:=yg (c:=c) (u:= [a]) (v:= [b]) (fun x hx=>by rw [aJ.mp hx]; exact h1.mem_iff.mp ha) (fun x hx=>by rw [aJ.mp hx]; exact h1.mem_iff.mp hb) (by rw [List.map_singleton,List.map_singleton,z]);exact List.head_eq_of_cons_eq this
  ·obtain⟨r,hr,rfl⟩:=aE.mp (List.dropLast_subset _ hy);have:=n8 hr;rw [h1.length_eq]at this;exact cy.mpr (by omega)
 have:=yE Ro sub;rw [ae,e,Gn]at this;have q:((noTwice c.length).map fun u=>((words (bj (c.length+1)) (m - 1)).map fun v=>(u,v)).length)=(noTwice c.length).map fun _=>(c.length+1) ^ (m - 1):=Gp fun x _=>by rw [ae,oN,bS]
 rw [q,NR,C9]at this;refine bg this ?_;generalize c.length=n at hm;clear this h nd Ro sub e q hk cn;have a1:(n,m)∈ [(0,2),(1,2),(2,2),(3,2),(4,2),(0,3),(1,3),(2,3),(3,3),(0,4),(1,4),(2,4)]:=by
  have:n=0\/n=1\/n=2\/n=3\/n=4:=by omega
  rcases this with rfl | rfl | rfl | rfl | rfl <;> rcases hm with⟨rfl,h⟩ | ⟨rfl,h⟩ | ⟨rfl,h⟩ <;> first | decide | omega
 have a2: ∀p∈ [(0,2),(1,2),(2,2),(3,2),(4,2),(0,3),(1,3),(2,3),(3,3),(0,4),(1,4),(2,4)],(noTwice p.1).length * (p.1+1) ^ (p.2 - 1)<=120:=by decide +kernel
 exact a2 _ a1
end Z
namespace Z
open PySem PySem.Spec PyProof.Rows L2
section
variable {X:Cx}{ρ:fB}{M0:MP}{H0 H H':Hp}{γ:List (D×V)}{α:Nat->ai}{σ:St}{En:Ends}{ny s1 body:List cF}{e c tg:Expr}{es:List Expr}{d d0:D}{ds:List D}{pos p pos' p1 p2 p3 p4 p5:Pos}{CX:k_}{k i j t:Nat}{x y:Str}{ι:Type}{args:ι->List D}{pre:ι->Prop}{res:ι->Except ai D}{P:pJ}{a:ai}{kv:o4}{rs:gH}
theorem cW.start0(R:Rep X.K M0 H0 γ α ρ σ H)(hN:X.N.Nodup)(hj:X.N[i]? =some x)(hx:Loc X.env.scope x)(hl:i < ρ.length)
  (kk: ∀a H',cW X M0 H0 γ α (ρ.set i .un) (σ.set i (some (.ref a))) H' i a []->mi X ny En (σ.set i (some (.ref a))) H')
  (hs:cu (.Dict [] [] p) (some (.Name x pos')) pos.line X.env=pure false:=by rfl)(hf:X.fn x=true\/X.env.scope.names.lookup x=some .local:=by first | exact .inl rfl | exact .inr rfl | assumption):mi X (.Assign [.Name x pos'] (.Dict [] [] p) pos::ny) En σ H:=by
 have pe:PE X (.Dict [] [] p) (fun σ H Q=> ∀a o,H a=none->Q (.ref a) (upd H a (jZ a o []))):=by
  intro pins s σ H Q I h;have hn:=I.fb.fresh (ay s.heap.objs.size);have big:gI < s.heap.objs.size:=by
   have h:cz < s.heap.objs.size:=(I.mod.glob.keeps I.bk).lt;exact jC (by decide) h
  have no:(s.heap.objs.size==gI)=false:=beq_eq_false_iff_ne.mpr (qi (aN big));exact wpAny_Dict_empty ⟨.ref s.heap.objs.size,_,I.laid (a:=s.heap.objs.size) (o:=jZ s.heap.objs.size {cls:= .type "dict",data:= .dict #[]} []) (h':=s.heap.push {cls:= .type "dict",data:= .dict #[]}) (t':=s.toks) (fun _ _ q=>ah _ q) (ay _)
   ⟨⟨no, #[],0,aw _ rfl,⟨rfl,rfl,rfl⟩,rfl,trivial⟩,⟨_,aw _ rfl⟩,fun h1 h2 ⟨q1,es,ep,q2,q3⟩ kk=>⟨q1,es,ep,kk _ q2,q3⟩⟩,rfl,h _ _ hn⟩
 refine(dh rV gr).to ((nB hN hj hx pe hs hf).to fun a o ha=>kk a _ ?_);have sm:bQ H (eV (upd H a (jZ a o [])) a):=fun c o' e=>by
  rw [nS];exact jN (fun z=>by rw [z,ha]at e; cases e) e
 exact⟨(R.next sm).forget,mz hl,mz (by rw [R.len]; exact hl),by simp, [],rfl,⟨o,bI⟩,rfl⟩
theorem cW.putT{ke:Expr}(hu:X.A.units+8 < cLine)(B:cW X M0 H0 γ α ρ σ H i a kv)(hi:X.N[i]? =some x)(R0:yn X.env.scope x)(hk:ar X (ρ.set i (.im (oI kv))) ke (f9 rs))(he:ar X (ρ.set i (.im (oI kv))) e (.bl true))(p8:rs∉kv.map (·.1))(iT:kv.length<=sizeLine)
  (kk: ∀H',cW X M0 H0 γ α ρ σ H' i a (kv ++ [(rs, -1)])->En.nx σ H')(hs:cu e (some (.Subscript (.Name x p1) ke pos')) pos.line X.env=pure false:=by rfl)(hd:(x==("__debug__":Str))=false:=by decide)(kc:(x==("__classdict__":Str))=false:=by decide):tS X (.Assign [.Subscript (.Name x p1) ke pos'] e pos) En σ H:=
 cW.putV (n:= -1) hu B hi R0 hk (ar.to he (if_pos rfl).symm) p8 iT kk hs hd kc
theorem ar.intB{b:Bool}(hg:Gl X "int")(hm:X.mg "int"=none)(h:ar X ρ e (.bl b))(he:ax [e] X.env= [(false,bV e X.env)]:=by rfl):ar X ρ (.Call (.Name "int" p) [e] [] pos) (.int (if b then 1 else 0)):=fun M0 H0 γ α σ H Q R kk=>
 (jr ES hg hm (by decide +kernel) (e_ iE hG he) (by decide) (by decide) he).to (h M0 H0 γ α σ H _ R fun v H1 s1 d1=>by
  cases (show v= .bl b from d1);exact .inr ⟨b,rfl,kk _ H1 s1 rfl⟩)
theorem IA{ii:ι}{J_:Pos}(nK: ∀a xs, ¬Ma X.K a xs)(hH:X.H₀=H0)(hN:X.N.Nodup)(hj:X.N[j]? =some y)(hy:Loc X.env.scope y)(F:j6 X.prog X.w X.K X.mg X.base CX k x args pre res)(hr:eW k X.A)(hx:Passes CX X E0)(hg:Gl X x)(ha:aU X ρ (e::es) (args ii))(hb: ∀d∈args ii,D.bare 9 d)(hp:pre ii)(md:res ii= .ok (.tup [d0, .lst ds]))(R:Rep X.K M0 H0 γ α ρ σ H)
  (kk: ∀t a xs u H',bQ H H'->H a=none->H' a=some (.lst xs)->xs.length=ds.length->k9 X.K H' t [u, .ref a]->Dn X.K (fun b=>H b≠none) H' (.tup [d0, .lst ds]) (.ref t)->mi X ny En (σ.set j (some (.ref t))) H')
  (hs:cu (.Call (.Name x p) (e::es) [] pos') (some (.Name y pos)) J_.line X.env=pure false:=by rfl)(hf:X.fn y=true\/X.env.scope.names.lookup y=some .local:=by first | exact .inl rfl | exact .inr rfl | assumption)(p9:(x==("__debug__":Str))=false:=by decide)
  (he:ax (e::es) X.env=(false,bV e X.env)::ax es X.env:=by rfl)(hpl:(fc pos' (ax es X.env)).any (·.1)=false:=by rfl):mi X (.Assign [.Name y pos] (.Call (.Name x p) (e::es) [] pos') J_::ny) En σ H:=by
 refine(dh rV gr).to (OW hN hj hy F hr hx hg ha hb hp md R (fun v H2 s2 d2=> ?_) hs hf p9 he hpl);have XS:=d2;obtain⟨tt,vs2,rfl,Xo,u0,rest,rfl,hd0,u1,Xr,rfl,⟨a,xs,rfl,sqm,Zt⟩,dk⟩:=d2;cases dk;have lx:xs.length=ds.length:=Zt.len;have na:H a=none:=by
  rcases sqm with⟨_,z⟩ | z
  ·cases e:H a with
   | none=>rfl
   | some o=>exact absurd (show H a≠none by rw [e]; intro w; cases w) z
  ·exact absurd z (nK a xs)
 show mi X ny En (σ.set j (some (.ref tt))) H2
 rcases sqm with⟨z | ⟨o,z⟩,_⟩ | z
 ·exact kk tt a xs u0 H2 s2 na z lx Xo XS
 ·exact vR (by rw [hH]; exact R.same.free na) z (kk tt a xs u0 _ (fM s2 na) na bI lx (zE z Xo) (XS.vR z))
 ·exact absurd z (nK a xs)
theorem Ob{jj:Nat}{a t:ai}{xs:List V}{u:V}(hi:X.N[i]? =some x)(hv:yn X.env.scope x)(R:Rep X.K M0 H0 γ α ρ σ H)(CK:σ[i]? =some (some (.ref t)))(ht:k9 X.K H t [u, .ref a])(ha:H a=some (.lst xs))(hl:xs.length < 1000000)(he:ar X ρ e d)
  (q: ∀H1 v,bQ H H1->En.nx σ (upd H1 a (.lst (xs ++ [v]))))(mc:N7 X (.Subscript (.Name x p1) (.Constant (.int 1) jj p5) p2) "append" e p3 p4)(hd:(x==("__debug__":Str))=false:=by decide)(kc:(x==("__classdict__":Str))=false:=by decide)
  (CV:cu (.Call (.Attribute (.Subscript (.Name x p1) (.Constant (.int 1) jj p5) p2) "append" p3) [e] [] p4) none pos.line X.env=pure false:=by rfl):
  tS X (.Expr (.Call (.Attribute (.Subscript (.Name x p1) (.Constant (.int 1) jj p5) p2) "append" p3) [e] [] p4) pos) En σ H:=by
 obtain⟨m1,m2,m3,m4⟩:=mc;refine(oQ (DF jg Be Bf lW (Dt IV (lC hi hv hd kc) Jj (by intro _ _; rfl)) xV m1 m2 m3 m4 rfl) CV).to ?_;refine⟨_,CK,t, [u, .ref a],1, .ref a,rfl,rfl,ht,xM (show [u,V.ref a][1]? =some (V.ref a)from rfl), .inl ⟨rfl,_,o6.of ha⟩,(aU.cons he aU.nil m4) M0 H0 γ α σ H _ R fun vs H1 s y=> ?_⟩;obtain⟨v,r,rfl,e1,e2⟩:=y;cases e2;exact⟨a,xs,v,rfl,rfl,s _ _ ha,xG hl,q H1 v s⟩
end
end Z
namespace K
open PySem L2 Z
def run(r:Rows)(ts:List jf):Rows:=ts.foldl mv r
def Path(f:c5):Rows->List jf->Prop
 | _, []=>True
 | r,t::ts=>isLet f r t=true/\Path f (mv r t) ts
theorem Path.app{f:c5}: ∀{ts:List jf} {r:Rows} {t:jf},Path f r ts->isLet f (run r ts) t=true->Path f r (ts ++ [t])
 | [],_,_,_,h=>⟨h,trivial⟩
 | u::ts,_,_,p,h=>⟨p.1,Path.app p.2 h⟩
theorem xP(r:Rows)(ts:List jf)(t:jf):run r (ts ++ [t])=mv (run r ts) t:=by unfold run; rw [KU]; rfl
theorem Path.good{f:c5}: ∀{ts:List jf} {r:Rows},good f r=true->Path f r ts->good f (run r ts)=true
 | [],_,g,_=>g
 | t::ts,_,g,p=>Path.good (ts:=ts) (j4 p.1).2 p.2
theorem Path.perm{f:c5}: ∀{ts:List jf} {r:Rows},K.good f r=true->Path f r ts->(run r ts).flatten.Perm r.flatten
 | [],_,g,_=>dC _
 | t::ts,_,g,p=>(Path.perm (ts:=ts) (j4 p.1).2 p.2).trans (yh (dS g) (j4 p.1).1)
section
variable {f:c5}{qs:dQ}{g:Rows}
theorem dE.sm(o:dE f qs g):Small g:=⟨by have:=o.iT; omega,by have:=dS o.gd; have:=o.s.ok.st; omega⟩
theorem dE.run(o:dE f qs g){ts:List jf}(p:Path f g ts):dE f qs (run g ts):=⟨o.s,p.good o.gd,by rw [(p.perm o.gd).length_eq]; exact o.iT⟩
theorem dE.of{x:Rows×Int}(o:dE f qs g)(hx:x∈fO f g):dE f qs x.1:=by
 have i:=o.fin.Cd x hx;exact⟨o.s,i.gd,by rw [i.of.1.length_eq]; exact o.iT⟩
theorem dE.fwd(o:dE f qs g): ∀{ts:List jf} {r:Rows} {h:Int},(r,h)∈fO f g->Path f r ts-> ∃m,(K.run r ts,m)∈fO f g
 | [],_,h,hr,_=>⟨h,hr⟩
 | t::ts,_,_,hr,p=>by
  obtain⟨m,hm,_⟩:=o.fin.nb o.s.ok hr p.1;exact o.fwd (ts:=ts) hm p.2
theorem dE.bwd(o:dE f qs g): ∀{ts:List jf} {r:Rows},K.good f r=true->Path f r ts->K.run r ts=g-> ∃m,(r,m)∈fO f g/\m<=(ts.length:Int)
 | [],r,_,_,e=>by
  cases (show r=g from e);exact⟨0,o.fin.be.goal,by simp⟩
 | t::ts,r,hg,p,e=>by
  obtain⟨m,hm,hl⟩:=o.bwd (j4 p.1).2 p.2 e;obtain⟨b1,b2⟩:=zL hg p.1;obtain⟨m',Mx,h1,_⟩:=o.fin.nb o.s.ok hm b1;rw [b2]at Mx;refine⟨m',Mx, ?_⟩;rw [aK];omega
theorem dE.zero(o:dE f qs g){r:Rows}(h:(r,0)∈fO f g):r=g:=by
 rcases o.fin.be.par _ _ h with⟨e,_⟩ | ⟨k',h',hk,_,e⟩
 ·exact e
 ·have:=o.fin.be.nn _ _ hk;omega
theorem dE.way(o:dE f qs g): ∀(n:Nat) {r:Rows},(r,(n:Int))∈fO f g->Path f r (K.way f g n r)/\K.run r (K.way f g n r)=g
 | 0,r,h=>⟨trivial,o.zero h⟩
 | n+1,r,h=>by
  obtain⟨t,rest,q1,q2,q3⟩:=zh o h;obtain⟨p1,p2⟩:=o.way n q3;have e:K.way f g (n+1) r=t::K.way f g n (mv r t):=by rw [K.way,q1]; rfl
  rw [e];exact⟨⟨q2,p1⟩,p2⟩
theorem dE.both{s:Rows}(o:dE f qs g)(o':dE f qs s)(h:g∈(fO f s).map (·.1)):s∈(fO f g).map (·.1):=by
 have e:=o'.fin;have hm:=e.has h;have hn:=e.be.nn _ _ hm;generalize nU (fO f s) g=z at hm hn;obtain⟨n,rfl⟩: ∃n:Nat,z=(n:Int):=⟨z.toNat,by omega⟩;obtain⟨p1,p2⟩:=o'.way n hm;obtain⟨m,qM⟩:=o.fwd o.fin.be.goal p1;rw [p2]at qM;exact aE.mpr ⟨_,qM,rfl⟩
def keys(f:c5)(g:Rows):List Rows:=o8 jQ ((fO f g).map (·.1))
theorem mem_keys{r:Rows}:r∈keys f g↔r∈(fO f g).map (·.1):=(gF _).mem_iff
theorem dE.pw(o:dE f qs g):(keys f g).Pairwise (fun a b=>jQ a b=true):=xN zG _ o.fin.be.nd
theorem dE.knd(o:dE f qs g):(keys f g).Nodup:=(gF _).nodup_iff.mpr o.fin.be.nd
theorem dE.key(o:dE f qs g){r:Rows}(h:r∈keys f g):dE f qs r:=by
 obtain⟨x,hx,rfl⟩:=aE.mp (mem_keys.mp h);exact o.of hx
theorem dE.next(o:dE f qs g){r:Rows}(h:r∈keys f g){t:jf}(ht:isLet f r t=true):mv r t∈keys f g:=by
 obtain⟨x,hx,rfl⟩:=aE.mp (mem_keys.mp h);obtain⟨m,hm,_⟩:=o.fin.nb o.s.ok (rs:=x.1) (n:=x.2) hx ht;exact mem_keys.mpr (aE.mpr ⟨_,hm,rfl⟩)
def qE(f:c5)(g:Rows):Prop:=(f.st=2/\g.flatten.length<=4)\/(f.st=3/\g.flatten.length<=3)\/(f.st=4/\g.flatten.length<=2)
theorem dE.count(o:dE f qs g)(hf:qE f g):(keys f g).length<=120:=by
 unfold keys;rw [(gF (lt:=jQ) ((fO f g).map (·.1))).length_eq,ae];have hl:=dS o.gd;refine Md (c:=g.flatten) (m:=g.length) ?_ ?_ o.fin.be.nd fun x hx=>(o.fin.Cd x hx).of
 ·have:=o.gd;unfold K.good at this;simp only [bN,decide_eq_true_eq]at this;exact this.1.2
 ·rcases hf with⟨h1,h2⟩ | ⟨h1,h2⟩ | ⟨h1,h2⟩
  ·exact .inl ⟨by omega,h2⟩
  ·exact .inr (.inl ⟨by omega,h2⟩)
  ·exact .inr (.inr ⟨by omega,h2⟩)
end
theorem AV: ∀r:List Int,D.pds (r.map .int)=r.map PyData.int
 | []=>rfl
 | x::r=>by rw [a9,D.pds,AV r]; rfl
theorem uZ: ∀rs:Rows,D.pds (rs.map r8)=rs.map As
 | []=>rfl
 | r::rs=>by
  rw [a9,D.pds,uZ rs];show PyData.tuple (D.pds (r.map .int))::_=_;rw [AV];rfl
theorem Jg(a b:Rows):D.eqv (f9 a) (f9 b)=decide (a=b):=by
 unfold D.eqv;show hW (.tuple (D.pds (a.map r8))) (.tuple (D.pds (b.map r8)))=_;rw [uZ,uZ];exact DQ a b
theorem g7(n:Nat)(rs:Rows):D.flat (n+2) (f9 rs):=fun d hd=>by
 obtain⟨r,_,rfl⟩:=aE.mp hd;intro e he;obtain⟨i,_,rfl⟩:=aE.mp (show e∈r.map D.int from he);cases n <;> trivial
theorem lU(ks:List Rows):D.flat 60 (.lst (ks.map f9)):=fun d hd=>by
 obtain⟨x,_,rfl⟩:=aE.mp hd;exact g7 57 _
theorem M9{a:Rows}{ks:List Rows}:inD (f9 a) (ks.map f9)=decide (a∈ks):=by
 unfold inD;rw [List.any_map,kN,List.any_eq_true,decide_eq_true_iff];constructor
 ·rintro⟨x,hx,h⟩;have h':D.eqv (f9 x) (f9 a)=true\/D.eqv (f9 a) (f9 x)=true:=by first | exact .inl h | exact .inr h
  rcases h' with h' | h' <;> rw [Jg]at h' <;> have:=of_decide_eq_true h' <;> subst this <;> exact hx
 ·intro h;exact⟨a,h,jS (g7 58 a)⟩
theorem kC{α β:Type}{kv:List α}{a:α->β}{i:Nat}{d:β}(h:(kv.map a)[i]? =some d): ∃x,x∈kv/\kv[i]? =some x/\d=a x:=by
 rw [aA]at h;cases e:kv[i]? with
 | none=>rw [e]at h; cases h
 | some x=>rw [e]at h; exact⟨x,aR e,rfl,(aF h).symm⟩
theorem Path.split{f:c5}: ∀{i:Nat} {ts:List jf} {r:Rows} {t:jf},Path f r ts->ts[i]? =some t->isLet f (run r (ts.take i)) t=true/\Path f r (ts.take i)
 | 0,u::ts,r,t,p,h=>by cases h; exact⟨p.1,trivial⟩
 | i+1,u::ts,r,t,p,h=>by
  obtain⟨a,b⟩:=Path.split (i:=i) p.2 (by simpa using h);exact⟨a,p.1,b⟩
section
variable {P:aH}{w:aW}{K:Frag}{mg:Str->Option af}{base:aY}{CX:k_}{C CS CO CT:ai}
theorem z_:bM ["floor","start","row","here","lift"] ["floor","start","row"] (aL sS):=l8
variable (P w K mg base CX)in
abbrev sO:Prop:=
 j6 P w K mg base CX 3 "_law_walked" (fun i:c5×Rows×List jf=> [i.1.d,rT i.2.1, .lst (i.2.2.map tD)]) (fun i=>(∃qs,dE i.1 qs i.2.1)/\Path i.1 i.2.1 i.2.2) (fun i=> .ok (rT (run i.2.1 i.2.2)))
theorem EX{f:ai}{fd:bb}(nx:NX CX)(B:Bm mg)(G1:yq P w K mg base CX)(G2:kF P w K mg base CX)(G3:mD P w K mg base CX)(F:ji K "_law_walked" "_law_walked" sS f fd)(hm:mg "_law_walked"=some (.ref f))(hb:Binds K fd ["floor","start","row"] []):sO P w K mg base CX:=by
 refine eu F z_ hm hb (fun i=>rfl) fun dX A outer s H E i M0 hp hr=>⟨_,rfl, ?_⟩;obtain⟨fl,r,ts⟩:=i;obtain⟨⟨qs,o⟩,p⟩:=(hp:(∃qs,dE fl qs r)/\Path fl r ts);have px:=z_.nd;have hu:=pN hr;have mj:eW 1 _:=hr.mono (by decide);change WS _ M0 H (bo sS) [.im fl.d, .im (rT r), .im (.lst (ts.map tD)), .un, .un] {N:=fun _=>rT (run r ts)= .non,R:=fun d'=>d'=rT (run r ts)};refine WS.cons (W1.set (i:=3) px rfl (.inl rfl) (fz rfl) (nm 1 rfl rfl) ?_);refine WS.cons (W1.for (ds:=ts.map tD) (fun n ρ=> ∃a,ρ= [.im fl.d, .im (rT r), .im (.lst (ts.map tD)), .im (rT (run r (ts.take n))),a]) bu rfl (iU.list (nm 2 rfl rfl)) ⟨_,rfl⟩ ?_ ?_)
 ·rintro n d ρ hd ⟨a,rfl⟩;obtain⟨t,_,et,rfl⟩:=kC hd;obtain⟨hl,p'⟩:=p.split et;have o':=o.run p';obtain⟨hc,_⟩:=j4 hl;refine⟨_,sW.name (i:=4) px rfl (.inl rfl) (fz rfl), ?_⟩;refine WS.cons (W1.ite (fk.t (fk.or (cg.not (cg.val (ar.call G1 hr (aP nx) rfl [t.1,t.2.1,t.2.2] (aU.cons (nm 4 rfl rfl) (aU.cons (nm 4 rfl rfl) aU.nil)) (show 3<=1000 by decide) rfl))) fun _=>fk.or1 (cg.notInL hu (ar.r (nm 4 rfl rfl)) (ar.r (ar.call G2 hr (aP nx) rfl (fl,run r (ts.take n)) (aU.cons (nm 0 rfl rfl) (aU.cons (nm 3 rfl rfl) aU.nil)) ⟨o.s.ok,o'.gd⟩ rfl)) (yx 59 _) (uK 58 _)))) (fun h=> ?_) fun h=>WS.nil ?_)
  ·exfalso;have h2:(!true || !inD (tD t) ((lets fl (run r (ts.take n))).map tD))=true:=h;rw [Lz (aE.mpr ⟨t,(lB o.s.ok).mpr hl,rfl⟩) (yx 59 t)]at h2;cases h2
  refine WS.one (W1.set (i:=3) px rfl (.inl rfl) (fz rfl) (ar.call G3 mj (aP nx) rfl (run r (ts.take n),t) (aU.cons (nm 3 rfl rfl) (aU.cons (nm 4 rfl rfl) aU.nil)) ⟨hc.mvOk (dS o'.gd) o'.sm,hc.ne⟩ rfl) ?_);refine⟨.im (tD t), ?_⟩;rw [di,et];show _= [Sl.im fl.d, .im (rT r), .im (.lst (ts.map tD)), .im (rT (run r (ts.take n ++ [t]))),_];rw [xP];rfl
 ·rintro ρ ⟨a,rfl⟩;rw [ae,df];exact WS.one (W1.ret (nm 3 rfl rfl) rfl)
theorem HL:bM ["floor","start","goal","rows","held","standing","lift"] ["floor","start","goal","rows"] (aL xj):=l8
structure Gr(f:c5)(qs:dQ)(start goal:Rows):Prop where
 o:dE f qs start
 iT:qE f start
 no:goal∉keys f start
variable (P w K mg base CX)in
abbrev Ib:Prop:=
 j6 P w K mg base CX 4 "_law_shut" (fun i:c5×dQ×Rows×Rows=> [i.1.d,rT i.2.2.1,rT i.2.2.2, .lst ((keys i.1 i.2.2.1).map f9)]) (fun i=>Gr i.1 i.2.1 i.2.2.1 i.2.2.2) (fun _=> .ok (.bl true))
theorem LK{f:ai}{fd:bb}(nx:NX CX)(B:Bm mg)(G1:yp P w K mg base CX)(G2:zk P w K mg base CX)(G3:kF P w K mg base CX)(G4:mD P w K mg base CX)(F:ji K "_law_shut" "_law_shut" xj f fd)(hm:mg "_law_shut"=some (.ref f))(hb:Binds K fd ["floor","start","goal","rows"] []):Ib P w K mg base CX:=by
 refine eu F HL hm hb (fun i=>rfl) fun dX A outer s H E i M0 hp hr=>⟨_,rfl, ?_⟩;obtain⟨fl,qs,r,g⟩:=i;obtain⟨o,iT,no⟩:=(hp:Gr fl qs r g);change dE fl qs r at o;change qE fl r at iT;change g∉keys fl r at no;have px:=HL.nd;have hu:=pN hr;have CM:=jB hu;have mj:eW 1 _:=hr.mono (by decide);have yP:eW 2 _:=hr.mono (by decide);have xm:(A.deeper (fi "_law_shut" (aL xj) s.heap.objs.size f dX)).units+8 < cLine:=by omega
 have V4:(A.deeper (fi "_law_shut" (aL xj) s.heap.objs.size f dX)).units+16 < cLine:=by omega
 have cnt:=o.count iT;have st:2<=fl.st/\fl.st<=4:=o.s.ok.st;have NI:r∈keys fl r:=mem_keys.mpr (aE.mpr ⟨_,o.fin.be.goal,rfl⟩);have pw:=o.pw;have knd:=o.knd;have JZ: ∀k∈keys fl r,dE fl qs k:=fun k hk=>o.key hk;have NF: ∀k∈keys fl r, ∀t,isLet fl k t=true->mv k t∈keys fl r:=fun k hk t ht=>o.next hk ht;have WY: ∀k∈keys fl r,k.length=fl.st.toNat:=fun k hk=>by have:=dS (JZ k hk).gd; omega
 generalize keys fl r=ks at cnt NI pw knd JZ NF WY no;change WS _ M0 H (bo xj) [.im fl.d, .im (rT r), .im (rT g), .im (.lst (ks.map f9)), .un, .un, .un] {N:=fun _=>D.bl true= .non,R:=fun d'=>d'= .bl true};have Xa: ∀d∈ks.map f9,D.flat 59 d:=fun d hd=>by
  obtain⟨x,_,rfl⟩:=aE.mp hd;exact g7 57 _
 refine WS.cons (W1.ite (fk.t (fk.or (cg.notInL hu (ar.r (nm 1 rfl rfl)) (ar.r (nm 3 rfl rfl)) (g7 58 r) Xa) fun _=>fk.or (cg.inL hu (ar.r (nm 2 rfl rfl)) (ar.r (nm 3 rfl rfl)) (g7 58 g) Xa) fun _=>fk.or1 (cg.ne CM (ar.r (nm 3 rfl rfl)) (ar.r (dF.toD (dF.sortedSetR (m:=fl.st.toNat) rfl V4 WY (by omega) pw rfl B.sorted rfl B.set (ar.r (nm 3 rfl rfl)) cnt))) (lU _) (lU _)))) (fun h=> ?_) fun h=>WS.nil ?_)
 ·exfalso;have h2:(!inD (f9 r) (ks.map f9) || (inD (f9 g) (ks.map f9) || !D.eqv (.lst (ks.map f9)) (.lst (ks.map f9))))=true:=h;rw [M9,M9,decide_eq_true NI,decide_eq_false no,jS (lU ks)]at h2;cases h2
 intro γ α σ H1 R;refine cW.start0 (i:=4) R px rfl (.inl rfl) (fz rfl) fun a H2 D2=> ?_;refine(dh rV gr).to (cW.for (t:=5) (ds:=ks.map f9) (fun n ρ kv=> ∃a5:Sl,ρ= [.im fl.d, .im (rT r), .im (rT g), .im (.lst (ks.map f9)), .un,a5, .un]/\kv=(ks.take n).map fun k=>(k, -1)) bu rfl px rfl (.inl rfl) (by decide) D2 (nm 3 rfl rfl) (fun d hd=>by obtain⟨x,_,rfl⟩:=aE.mp hd; exact iD 7 _) ⟨_,rfl,rfl⟩ (fun n ρ kv ⟨_,e,_⟩=>by rw [e]; exact fz rfl) ?_ ?_)
 ·rintro Gf n d α ρ σ H kv hd ⟨a5,rfl,rfl⟩ D;obtain⟨k,hk,ek,rfl⟩:=kC hd;have p8:k∉((ks.take n).map fun k=>((k, -1):Rows×Int)).map (·.1):=fun hm=>by
   rw [cH]at hm;obtain⟨y,hy,e⟩:=aE.mp hm;have e':y=k:=e;subst e';obtain⟨i,hi,e2⟩:=aT.mp hy;rw [bh]at hi;rw [eC]at e2;obtain⟨h1,e1⟩:=aB.mp ek;exact bY.mp knd i n (by omega) h1 (by omega) (by rw [e1,e2])
  refine(qv rV).to (cW.putT (rs:=k) xm D rfl (.inl rfl) (nm 5 rfl rfl) ar.bl p8 (by rw [ae,bh]; unfold sizeLine; omega) fun H7 D7=> ?_);refine⟨_,_,_,D7, .im (f9 k),rfl, ?_⟩;rw [di,ek,bw];rfl
 ·rintro α ρ σ H kv ⟨a5,rfl,rfl⟩ D;rw [ae,df]at D;have nd:=D.nd;have Y6:(ks.map fun k=>((k, -1):Rows×Int)).map (·.1)=ks:=by
   rw [cH];exact List.map_id' ks
  refine(?_:WS _ M0 _ _ [.im fl.d, .im (rT r), .im (rT g), .im (.lst (ks.map f9)), .im (oI (ks.map fun k=>(k, -1))),a5, .un] {N:=fun _=>Z.D.bl true= .non,R:=fun d'=>d'= .bl true}) γ α σ H D.view;refine WS.cons (W1.for (ds:=ks.map f9) (fun n ρ=> ∃a5 a6,ρ= [.im fl.d, .im (rT r), .im (rT g), .im (.lst (ks.map f9)), .im (oI (ks.map fun k=>(k, -1))),a5,a6]) bu rfl (iU.list (nm 3 rfl rfl)) ⟨_,_,rfl⟩ ?_ ?_)
  ·rintro n d ρ hd ⟨a5,a6,rfl⟩;obtain⟨k,hk,ek,rfl⟩:=kC hd;have Rz:=JZ k hk;have sx:=Rz.sm;refine⟨_,sW.name (i:=5) px rfl (.inl rfl) (fz rfl), ?_⟩;refine WS.cons (W1.ite (fk.t (fk.or (cg.not (cg.val (ar.call G1 hr (aP nx) rfl k (aU.cons (nm 5 rfl rfl) (aU.cons (nm 5 rfl rfl) aU.nil)) sx rfl))) fun _=>fk.or1 (cg.not (cg.val (ar.call G2 mj (aP nx) rfl (fl,true,k) (aU.cons (nm 0 rfl rfl) (aU.cons (nm 5 rfl rfl) aU.nil)) ⟨show k.flatten.length < 4000 by have:=Rz.iT; omega,show k.length < 4000 by have:=sx.n; omega⟩ rfl))))) (fun h=> ?_) fun h=>WS.nil ?_)
   ·exfalso;have h2:(!true || !good fl k)=true:=h;rw [Rz.gd]at h2;cases h2
   refine WS.one (W1.for (ds:=(lets fl k).map tD) (fun n ρ=> ∃a6,ρ= [.im fl.d, .im (rT r), .im (rT g), .im (.lst (ks.map f9)), .im (oI (ks.map fun k=>(k, -1))), .im (f9 k),a6]) bu rfl (iU.list (ar.call G3 yP (aP nx) rfl (fl,k) (aU.cons (nm 0 rfl rfl) (aU.cons (nm 5 rfl rfl) aU.nil)) ⟨o.s.ok,Rz.gd⟩ rfl)) ⟨_,rfl⟩ ?_ ?_)
   ·rintro n d ρ hd ⟨a6,rfl⟩;obtain⟨t,ht,et,rfl⟩:=kC hd;have hl:=(lB o.s.ok).mp ht;obtain⟨hc,_⟩:=j4 hl;refine⟨_,sW.name (i:=6) px rfl (.inl rfl) (fz rfl), ?_⟩;refine WS.one (W1.ite (cg.notInDc (k:=mv k t) xm nd (ar.call G4 mj (aP nx) rfl (k,t) (aU.cons (nm 5 rfl rfl) (aU.cons (nm 6 rfl rfl) aU.nil)) ⟨hc.mvOk (dS Rz.gd) sx,hc.ne⟩ rfl) (nm 4 rfl rfl)) (fun h=> ?_) fun h=>WS.nil ⟨_,rfl⟩);exfalso;rw [Y6,decide_eq_true (NF k hk t hl)]at h;cases h
   ·rintro ρ ⟨a6,rfl⟩;exact⟨_,_,rfl⟩
  ·rintro ρ ⟨a5,a6,rfl⟩;exact WS.one (W1.ret ar.bl rfl)
end
structure iN(f:c5)(qs:dQ)(start goal:Rows):Prop where
 s:dE f qs start
 g:dE f qs goal
 same:o_ start.flatten=o_ goal.flatten
def pE(f:c5)(start goal:Rows):List jf:=way f goal (nU (fO f goal) start).toNat start
def l7(f:c5)(start goal:Rows):D:=if start∈(fO f goal).map (·.1)then .tup [.str "plan", .lst ((pE f start goal).map tD)]else .tup [.str "shut", .lst ((keys f start).map f9)]
theorem iN.way{f:c5}{qs:dQ}{start goal:Rows}(t:iN f qs start goal)(h:start∈(fO f goal).map (·.1)):Path f start (pE f start goal)/\run start (pE f start goal)=goal/\(start,((pE f start goal).length:Int))∈fO f goal:=by
 have e:=t.g.fin;have hm:=e.has h;have hn:=e.be.nn _ _ hm;unfold pE;generalize nU (fO f goal) start=z at hm hn ⊢;obtain⟨n,rfl⟩: ∃n:Nat,z=(n:Int):=⟨z.toNat,by omega⟩;rw [cP,sX];obtain⟨a,b⟩:=t.g.way n hm;exact⟨a,b,hm⟩
theorem DI{α:Type} [DecidableEq α]{k:α}{n:Int}: ∀{kv:List (α×Int)},(kv.map (·.1)).Nodup->(k,n)∈kv->kv.filter (fun x=>decide (x.1=k))= [(k,n)]
 | [],_,h=>by cases h
 | x::kv,nd,h=>by
  rw [a9]at nd;obtain⟨n1,n2⟩:=eG.mp nd
  rcases aV.mp h with rfl | h
  ·rw [List.filter_cons_of_pos (by simp)];congr 1;refine List.filter_eq_nil_iff.mpr fun y hy=> ?_;intro z;exact n1 (by rw [<-of_decide_eq_true z]; exact aE.mpr ⟨y,hy,rfl⟩)
  ·have ja:x.1≠k:=fun z=>n1 (by rw [z]; exact aE.mpr ⟨_,h,rfl⟩);rw [List.filter_cons_of_neg (by simpa using ja)];exact DI n2 h
def isAt(r:Rows):D->Bool
 | .tup (k::_)=>D.eqv k (f9 r)
 | _=>false
def Wc:D->D
 | .tup [_,n]=>n
 | _=> .non
theorem QK(r:Rows)(x:Rows×Int):isAt r (Ng x)=decide (x.1=r):=Jg x.1 r
theorem X4{f:c5}{qs:dQ}{g r:Rows}{n:Int}(o:dE f qs g)(h:(r,n)∈fO f g):(((o8 mB (fO f g)).map Ng).filter (isAt r)).map Wc= [.int n]:=by
 rw [List.filter_map,cH];have e:(o8 mB (fO f g)).filter (isAt r ∘ Ng)=(o8 mB (fO f g)).filter fun x=>decide (x.1=r):=List.filter_congr fun x _=>QK r x;rw [e,DI (((gF (lt:=mB) (fO f g)).map _).nodup_iff.mpr o.fin.be.nd) ((gF _).mem_iff.mpr h)];rfl
section
variable {P:aH}{w:aW}{K:Frag}{mg:Str->Option af}{base:aY}{C CS CO CT:ai}
theorem rp(G:wU P w K mg base C CS CO CT):j6 P w K mg base (fP P w) 9 "plan" (fun i:c5×dQ×Rows×Rows=> [g9 C i.1 i.2.1,rT i.2.2.1,rT i.2.2.2]) (fun i=>iN i.1 i.2.1 i.2.2.1 i.2.2.2) (fun i=> .ok (l7 i.1 i.2.2.1 i.2.2.2)):=nA G fun⟨f,qs,s,g⟩ h=>by
 have h':iN f qs s g:=h;refine⟨⟨h'.s.s,h'.s.sm,h'.g.sm⟩, ?_⟩;show wO CS CO CT f s g= .ok (l7 f s g);unfold wO l7;rw [if_pos h'.s.gd,if_pos h'.g.gd,if_pos h'.s.iT,if_pos h'.same]
 by_cases rZ:s∈(fO f g).map (·.1)
 ·rw [if_pos rZ,if_pos rZ]; rfl
 ·rw [if_neg rZ,if_neg rZ]; rfl
theorem yf(G:qK P w K mg base C CS CT):j6 P w K mg base (fP P w) 8 "heights" (fun i:c5×dQ×Rows=> [g9 C i.1 i.2.1,rT i.2.2]) (fun i=>dE i.1 i.2.1 i.2.2) (fun i=> .ok (yz (fO i.1 i.2.2))):=nA G fun i h=>⟨⟨h.s,h.sm⟩,(if_pos h.gd).trans (if_pos h.iT)⟩
theorem Fh(G:tx P w K mg base C CS CT):j6 P w K mg base (fP P w) 8 "come_to" (fun i:c5×dQ×Rows=> [g9 C i.1 i.2.1,rT i.2.2]) (fun i=>dE i.1 i.2.1 i.2.2) (fun i=> .ok (AN (fO i.1 i.2.2))):=nA G fun i h=>⟨⟨h.s,h.sm⟩,(if_pos h.gd).trans (if_pos h.iT)⟩
theorem DG:bM ["made","floor","start","goal","told","high"] ["made","floor","start","goal"] (aL xX):=l8
variable (P w K mg base)in
abbrev CC(C:ai):Prop:=
 j6 P w K mg base (fP P w) 10 "_law_right" (fun i:c5×dQ×Rows×Rows=> [g9 C i.1 i.2.1,i.1.d,rT i.2.2.1,rT i.2.2.2]) (fun i=>iN i.1 i.2.1 i.2.2.1 i.2.2.2/\qE i.1 i.2.2.1) (fun _=> .ok (.bl true))
theorem IB{f:ai}{fd:bb}(B:Bm mg)(R_:wU P w K mg base C CS CO CT)(Z_:qK P w K mg base C CS CT)(YU:tx P w K mg base C CS CT)(GW:sO P w K mg base (fP P w))(GS:Ib P w K mg base (fP P w))(F:ji K "_law_right" "_law_right" xX f fd)(hm:mg "_law_right"=some (.ref f))(hb:Binds K fd ["made","floor","start","goal"] []):CC P w K mg base C:=by
 have GP:=rp R_;have GH:=yf Z_;have GC:=Fh YU;refine eu F DG hm hb (fun i=>rfl) fun dX A outer s H E i M0 hp hr=>⟨_,rfl, ?_⟩;obtain⟨fl,qs,r,g⟩:=i;obtain⟨tw,iT⟩:=(hp:iN fl qs r g/\qE fl r);change iN fl qs r g at tw;change qE fl r at iT;have nx:NX (fP P w):=kG;have px:=DG.nd;have hu:=pN hr;have CM:=jB hu;have Vw:eW 3 _:=hr.mono (by decide);have Z2:eW 4 _:=hr.mono (by decide);have XU:eW 8 _:=hr.mono (by decide);change WS _ M0 H (bo xX) [.im (g9 C fl qs), .im fl.d, .im (rT r), .im (rT g), .un, .un] {N:=fun _=>D.bl true= .non,R:=fun d'=>d'= .bl true};refine WS.cons (W1.set (i:=4) px rfl (.inl rfl) (fz rfl) (ar.call GP hr (aP nx) rfl (fl,qs,r,g) (aU.cons (nm 0 rfl rfl) (aU.cons (nm 2 rfl rfl) (aU.cons (nm 3 rfl rfl) aU.nil))) tw rfl) ?_)
 by_cases rZ:r∈(fO fl g).map (·.1)
 ·have et:l7 fl r g= .tup [.str "plan", .lst ((pE fl r g).map tD)]:=if_pos rZ;rw [show l7 (fl,qs,r,g).1 (fl,qs,r,g).2.2.1 (fl,qs,r,g).2.2.2=l7 fl r g from rfl,et];obtain⟨w1,w2,w3⟩:=tw.way rZ;generalize pE fl r g=ws at w1 w2 w3;refine WS.cons (W1.ite (fk.t (fk.or (cg.not (cg.val (ar.nH rfl B.nH rfl B.tuple (by decide +kernel) (.inr (.inr (.inr (.inl rfl)))) (ar.r (nm 4 rfl rfl)) rfl))) fun _=>fk.or (cg.cI .ne (ar.lenT rfl B.len (nm 4 rfl rfl)) ar.int) fun _=>fk.or1 (cg.not (cg.val (ar.nH rfl B.nH rfl B.list (by decide +kernel) (.inr (.inr (.inr (.inr rfl)))) (ar.r (ar.ixT (nm 4 rfl rfl) ar.int rfl)) rfl))))) (fun h=> ?_) fun h=>WS.nil ?_)
  ·cases (show(!qQ "tuple" (D.tup [.str "plan", .lst (ws.map tD)]) || (decide (((2:Nat):Int)≠2) || !qQ "list" (D.lst (ws.map tD))))=true from h)
  refine WS.cons (W1.ite (cg.eqS (ar.ixT (nm 4 rfl rfl) ar.int rfl) ar.str) (fun h=> ?_) fun h=>absurd h (by decide +kernel));have hlen:=(tw.g.fin).len;refine WS.cons (W1.compM (i:=5) (f:=isAt r) (el:=Wc) (ds:=(o8 mB (fO fl g)).map Ng) (cs:= [f9 r]) (N':= ["pair","start"]) (js:= [2])
   (dU.cap1 (pre:= [(".0", .local),("pair", .local)]) (post:= []) (rn:= [(".0", .local),("pair", .local),("start", .cell)]) rfl (by decide +kernel) (by decide +kernel) rfl (by decide +kernel) rfl (by decide +kernel) rfl rfl rfl rfl rfl (by decide +kernel)) rfl (by decide +kernel)
   (iU.list (ar.call GH XU (aP nx) rfl (fl,qs,g) (aU.cons (nm 0 rfl rfl) (aU.cons (nm 3 rfl rfl) aU.nil)) tw.g rfl)) (Ni rfl) (by rw [ae,(gF (lt:=mB) (fO fl g)).length_eq]; omega) ?_ ?_ px rfl rfl (fz rfl) ?_)
  ·intro C' s₀ H₀ fp pins i d h1;obtain⟨x,_,_,rfl⟩:=kC h1;exact cg.eq CM (ar.r (ar.ixT (nm 0 rfl rfl) ar.int rfl)) (ar.r (nm 1 rfl rfl)) (g7 58 x.1) (g7 58 r)
  ·intro C' s₀ H₀ fp pins i d h1;obtain⟨x,_,_,rfl⟩:=kC h1;exact ar.ixT (nm 0 rfl rfl) ar.int rfl
  rw [X4 tw.g w3];refine WS.freeze (i:=5) rfl ?_;have VQ:D.flat 60 (.lst [.int (ws.length:Int)]):=fun d hd=>by rw [aJ.mp hd]; trivial
  refine WS.one (W1.ret (ar.and (ar.eq CM (ar.r (ar.call GW Vw (aP nx) rfl (fl,r,ws) (aU.cons (nm 1 rfl rfl) (aU.cons (nm 2 rfl rfl) (aU.cons (ar.ixT (nm 4 rfl rfl) ar.int rfl) aU.nil))) ⟨⟨qs,tw.s⟩,w1⟩ rfl)) (ar.r (nm 3 rfl rfl)) (g7 58 _) (g7 58 g)) fun _=>ar.one (ar.eq CM (ar.r (nm 5 rfl rfl)) (ar.r (dF.toD (dF.lst (aU.cons (ar.to (ar.lenL rfl B.len (ar.r (ar.ixT (nm 4 rfl rfl) ar.int rfl))) (by rw [ae])) aU.nil)))) VQ VQ)) ?_);show D.bl (D.eqv (f9 (run r ws)) (f9 g)&&D.eqv (.lst [.int (ws.length:Int)]) (.lst [.int (ws.length:Int)]))=D.bl true;rw [w2,jS (g7 58 g),jS VQ];rfl
 ·have et:l7 fl r g= .tup [.str "shut", .lst ((keys fl r).map f9)]:=if_neg rZ;rw [show l7 (fl,qs,r,g).1 (fl,qs,r,g).2.2.1 (fl,qs,r,g).2.2.2=l7 fl r g from rfl,et];have no:g∉keys fl r:=fun z=>rZ (tw.g.both tw.s (mem_keys.mp z));refine WS.cons (W1.ite (fk.t (fk.or (cg.not (cg.val (ar.nH rfl B.nH rfl B.tuple (by decide +kernel) (.inr (.inr (.inr (.inl rfl)))) (ar.r (nm 4 rfl rfl)) rfl))) fun _=>fk.or (cg.cI .ne (ar.lenT rfl B.len (nm 4 rfl rfl)) ar.int) fun _=>fk.or1 (cg.not (cg.val (ar.nH rfl B.nH rfl B.list (by decide +kernel) (.inr (.inr (.inr (.inr rfl)))) (ar.r (ar.ixT (nm 4 rfl rfl) ar.int rfl)) rfl))))) (fun h=> ?_) fun h=>WS.nil ?_)
  ·cases (show(!qQ "tuple" (D.tup [.str "shut", .lst ((keys fl r).map f9)]) || (decide (((2:Nat):Int)≠2) || !qQ "list" (D.lst ((keys fl r).map f9))))=true from h)
  refine WS.cons (W1.ite (cg.eqS (ar.ixT (nm 4 rfl rfl) ar.int rfl) ar.str) (fun h=>absurd h (by decide +kernel)) fun h=>WS.nil ?_);refine WS.one (W1.ret (ar.and (ar.eqS (ar.ixT (nm 4 rfl rfl) ar.int rfl) ar.str) fun _=>ar.and (ar.call GS Z2 (aP nx) rfl (fl,qs,r,g) (aU.cons (nm 1 rfl rfl) (aU.cons (nm 2 rfl rfl) (aU.cons (nm 3 rfl rfl) (aU.cons (ar.ixT (nm 4 rfl rfl) ar.int rfl) aU.nil)))) ⟨tw.s,iT,no⟩ rfl) fun _=>ar.one (ar.eq CM (ar.r (ar.call GC XU (aP nx) rfl (fl,qs,r) (aU.cons (nm 0 rfl rfl) (aU.cons (nm 2 rfl rfl) aU.nil)) tw.s rfl)) (ar.r (ar.ixT (nm 4 rfl rfl) ar.int rfl)) (lU _) (lU _))) ?_);show D.bl (decide (("shut":Str)="shut")&&(true&&D.eqv (.lst ((keys fl r).map f9)) (.lst ((keys fl r).map f9))))=D.bl true;rw [jS (lU _),decide_eq_true rfl];rfl
end
theorem We{X:Cx}{ρ:fB}{e:Expr}{es:List Expr}{C:ai}{x:Str}{ns:List Str}{pos p:Pos}{CX:k_}{k:Nat}{ι:Type}{args:ι->List D}{pre:ι->Prop}{res:ι->List D->Prop}{i:ι}(F:TH X.prog X.w X.K X.mg X.base CX k x C ns args pre res)(hr:eW (k+1) X.A)(hx:Passes CX X E0)(hg:Gl X x)(ha:aU X ρ (e::es) (args i))(hp:pre i)(p9:(x==("__debug__":Str))=false:=by decide)
  (he:ax (e::es) X.env=(false,bV e X.env)::ax es X.env:=by rfl)(hpl:(fc pos (ax es X.env)).any (·.1)=false:=by rfl):Kv X ρ (.Call (.Name x p) (e::es) [] pos) (fun d=> ∃ds,d= .ins C ns ds/\res i ds):=Kv.make F hr hx hg i ha hp p9 he hpl
theorem pick{ls:List jf}(h:ls≠ [])(v:Int): ∃t∈ls,vY (ls.map tD) (v % ((ls.map tD).length:Int))=some (tD t):=by
 have YT:0 < ls.length:=qO.mpr h;rw [ae];have m0:=iW v (show(ls.length:Int)≠0 by omega);have m1:=gK v (show(0:Int) < ls.length by omega);have fj:(v % (ls.length:Int)).toNat < ls.length:=by omega
 refine⟨ls[(v % (ls.length:Int)).toNat],aX _, ?_⟩;rw [sN,pM (j:=(v % (ls.length:Int)).toNat) (by omega) fj];rfl
theorem DY{ns:List Int}{lo hi:Option Int}{i:Nat}{d:D}(h:(cutD (ns.map .int) lo hi)[i]? =some d): ∃v,d= .int v:=by
 have hm:=aR h;unfold cutD at hm;obtain⟨v,_,e⟩:=aE.mp (fX (f6 hm));exact⟨v,e.symm⟩
theorem iN.of_path{f:c5}{qs:dQ}{r:Rows}{ts:List jf}(o:dE f qs r)(p:Path f r ts):iN f qs r (run r ts):=⟨o,o.run p,N8 (p.perm o.gd).symm⟩
theorem iN.there{f:c5}{qs:dQ}{r:Rows}{ts:List jf}(o:dE f qs r)(p:Path f r ts): ∃m,(r,m)∈fO f (run r ts)/\m<=(ts.length:Int):=(o.run p).bwd o.gd p rfl
theorem iN.tell{f:c5}{qs:dQ}{r:Rows}{ts:List jf}(o:dE f qs r)(p:Path f r ts):l7 f r (run r ts)= .tup [.str "plan", .lst ((pE f r (run r ts)).map tD)]:=by
 obtain⟨m,hm,_⟩:=iN.there o p;exact if_pos (aE.mpr ⟨_,hm,rfl⟩)
theorem IT{ls:List jf}:D.eqv (.lst (ls.map tD)) (.lst [])=decide (ls= []):=by
 cases ls with
 | nil=>exact jS (d:= .lst []) (fun d hd=>by cases hd)
 | cons t ls=>rfl
theorem Jk:D.flat 60 (.lst ([]:List D)):=fun d hd=>by cases hd
section
variable {P:aH}{w:aW}{K:Frag}{mg:Str->Option af}{base:aY}{C CS CO CT:ai}
theorem DV:bM ["script","floor","crates","start","goal","count","cell","some","told"] ["script","floor"] (aL x_):=l8
variable (P w K mg base)in
abbrev Cf:Prop:=
 j6 P w K mg base (fP P w) 10 "_law_great" (fun i:List Int×c5=> [.lst (i.1.map .int),i.2.d]) (fun i=>qm i.2) (fun _=> .ok (.bl true))
set_option maxHeartbeats 4000000 in
theorem Hf{f:ai}{fd:bb}(B:Bm mg)(G1:wL P w K mg base (fP P w))(G3:oW P w K mg base (fP P w))(G5:DN P w K mg base (fP P w) C)(R_:wU P w K mg base C CS CO CT)(GB:kF P w K mg base (fP P w))(GC:mD P w K mg base (fP P w))(GW:sO P w K mg base (fP P w))(F:ji K "_law_great" "_law_great" x_ f fd)(hm:mg "_law_great"=some (.ref f))(hb:Binds K fd ["script","floor"] []):Cf P w K mg base:=by
 have GP:=rp R_;refine eu F DV hm hb (fun i=>rfl) fun dX A outer s H E i M0 hp hr=>⟨_,rfl, ?_⟩;obtain⟨ns,fl⟩:=i;have hF:qm fl:=hp;have nx:NX (fP P w):=kG;have px:=DV.nd;have hu:=pN hr;have CM:=jB hu;have mj:eW 1 _:=hr.mono (by decide);have yP:eW 2 _:=hr.mono (by decide);have Vw:eW 3 _:=hr.mono (by decide);have VL:eW 6 _:=hr.mono (by decide);have f1:2<=fl.st/\fl.st<=4:=hF.st;have f2:1<=fl.ht/\fl.ht<=6:=hF.ht;change WS _ M0 H (bo x_) [.im (.lst (ns.map .int)), .im fl.d, .un, .un, .un, .un, .un, .un, .un] {N:=fun _=>D.bl true= .non,R:=fun d'=>d'= .bl true};obtain⟨z,hz,z0,z1⟩: ∃z:Int,3+(if decide (fl.st=3)=true then 1 else 0)=z/\0<=z/\z<=4:=⟨_,rfl,by split <;> omega,by split <;> omega⟩;refine WS.cons (W1.set (i:=2) px rfl (.inl rfl) (fz rfl) (dF.toD (dF.listRng rfl rfl B.list rfl B.range (ar.to (ar.add ar.int (ar.intB rfl B.int (ar.cI .eq (ar.ixT (nm 1 rfl rfl) ar.int rfl) ar.int))) (congrArg D.int hz)) z0 (by omega))) ?_);have ZO:jV 0 z.toNat=((bj z.toNat).map (fun(i:Nat)=>(0:Int)+(i:Int))).map .int:=by unfold jV; rw [cH]; rfl
 have UP:((bj z.toNat).map (fun(i:Nat)=>(0:Int)+(i:Int))).length<=4:=by rw [ae,bS]; omega
 rw [ZO];generalize (bj z.toNat).map (fun(i:Nat)=>(0:Int)+(i:Int))=cr at UP;refine WS.cons (W1.set (i:=3) px rfl (.inl rfl) (fz rfl) (ar.call G3 yP (aP nx) rfl (fl,cellAt ns 8 % 2147483647,cr) (aU.cons (nm 1 rfl rfl) (aU.cons (ar.mod (ar.call G1 mj (aP nx) rfl (ns,8) (aU.cons (nm 0 rfl rfl) (aU.cons ar.int aU.nil)) trivial rfl) ar.int (by decide)) (aU.cons (nm 2 rfl rfl) aU.nil))) ⟨f1.1,f1.2,bg UP (by decide)⟩ rfl) ?_);have Xs:=lA (f:=fl) (cell:=cellAt ns 8 % 2147483647) (crates:=cr) (by omega) (by omega);have XX:=bg (my fl (cellAt ns 8 % 2147483647) cr) UP;generalize dW fl (cellAt ns 8 % 2147483647) cr=r at Xs XX;have hS:gu fl (iu fl.fK):=⟨hF,bg (Ak _) hF.iT,fun p=>nZ p _⟩;have o:dE fl (iu fl.fK) r:=⟨hS,Xs,XX⟩;refine WS.cons (W1.set (i:=4) px rfl (.inl rfl) (fz rfl) (nm 3 rfl rfl) ?_);refine WS.cons (W1.set (i:=5) px rfl (.inl rfl) (fz rfl) ar.int ?_);refine WS.cons (W1.for (ds:=cutD (ns.map .int) (some 10) (some 14)) (fun n ρ=> ∃(ts:List jf) (a6 a7:Sl),ρ= [.im (.lst (ns.map .int)), .im fl.d, .im (.lst (cr.map .int)), .im (rT r), .im (rT (run r ts)), .im (.int (ts.length:Int)),a6,a7, .un]/\Path fl r ts) bu rfl (iU.list (dF.toD (dF.cutL (ar.r (nm 0 rfl rfl)) (tK.some ar.int) (tK.some ar.int)))) ⟨[],_,_,rfl,trivial⟩ ?_ ?_)
 ·rintro n d ρ hd ⟨ts,a6,a7,rfl,p⟩;obtain⟨v,rfl⟩:=DY hd;have o':=o.run p;refine⟨_,sW.name (i:=6) px rfl (.inl rfl) (fz rfl), ?_⟩;refine WS.cons (W1.set (i:=7) px rfl (.inl rfl) (fz rfl) (ar.call GB yP (aP nx) rfl (fl,run r ts) (aU.cons (nm 1 rfl rfl) (aU.cons (nm 4 rfl rfl) aU.nil)) ⟨hF,o'.gd⟩ rfl) ?_);refine WS.one (W1.ite (cg.ne CM (ar.r (nm 7 rfl rfl)) (ar.r (dF.toD (dF.lst aU.nil))) (fun d hd=>uK 58 _ d hd) Jk) (fun h=> ?_) fun h=>WS.nil ⟨ts,_,_,rfl,p⟩);have ja:lets fl (run r ts)≠ []:=by
   have h':(!D.eqv (.lst ((lets fl (run r ts)).map tD)) (.lst []))=true:=h;rw [IT]at h';simpa using h'
  obtain⟨t,ht,PR⟩:=pick ja v;have hl:=(lB hF).mp ht;obtain⟨hc,_⟩:=j4 hl;refine WS.cons (W1.set (i:=4) px rfl (.inl rfl) (fz rfl) (ar.call GC mj (aP nx) rfl (run r ts,t) (aU.cons (nm 4 rfl rfl) (aU.cons (ar.ixL (ar.r (nm 7 rfl rfl)) (ar.mod (nm 6 rfl rfl) (ar.lenL rfl B.len (ar.r (nm 7 rfl rfl))) (by rw [ae]; have:=qO.mpr ja; show(0:Int) < ((lets fl (run r ts)).length:Int); omega)) PR) aU.nil)) ⟨hc.mvOk (dS o'.gd) o'.sm,hc.ne⟩ rfl) ?_);refine WS.one (W1.set (i:=5) px rfl (.inl rfl) (fz rfl) (ar.add (nm 5 rfl rfl) ar.int) ?_);refine⟨ts ++ [t], .im (.int v), .im (.lst ((lets fl (run r ts)).map tD)), ?_,p.app hl⟩;rw [xP,aq];rfl
 ·rintro ρ ⟨ts,a6,a7,rfl,p⟩;have tw:=iN.of_path o p;refine WS.cons (W1.set (i:=8) px rfl (.inl rfl) (fz rfl) (ar.call GP hr (aP nx) rfl (fl,iu fl.fK,r,run r ts) (aU.cons (Kv.exact (d:=g9 C fl (iu fl.fK)) (We (i:=fl) G5 VL (aP nx) rfl (aU.cons (ar.ixT (nm 1 rfl rfl) ar.int rfl) (aU.cons (ar.ixT (nm 1 rfl rfl) ar.int rfl) (aU.cons (ar.ixT (nm 1 rfl rfl) ar.int rfl) (aU.cons (dF.toD (dF.listL rfl B.list (ar.r (ar.ixT (nm 1 rfl rfl) ar.int rfl)))) aU.nil)))) hF) fun d' ⟨ds,e1,qs,e2,e3⟩=>by subst e1 e2 e3; rfl) (aU.cons (nm 3 rfl rfl) (aU.cons (nm 4 rfl rfl) aU.nil))) tw rfl) ?_);rw [show l7 (fl,iu fl.fK,r,run r ts).1 (fl,iu fl.fK,r,run r ts).2.2.1 (fl,iu fl.fK,r,run r ts).2.2.2=l7 fl r (run r ts)from rfl,iN.tell o p];obtain⟨m,hm,hle⟩:=iN.there o p;obtain⟨w1,w2,w3⟩:=tw.way (aE.mpr ⟨_,hm,rfl⟩);have hw:((pE fl r (run r ts)).length:Int)<=(ts.length:Int):=by rw [tw.g.fin.be.uniq w3 hm]; exact hle
  generalize pE fl r (run r ts)=ws at w1 w2 w3 hw;refine WS.cons (W1.ite (fk.t (fk.or (cg.not (cg.val (ar.nH rfl B.nH rfl B.tuple (by decide +kernel) (.inr (.inr (.inr (.inl rfl)))) (ar.r (nm 8 rfl rfl)) rfl))) fun _=>fk.or (cg.neS (ar.ixT (nm 8 rfl rfl) ar.int rfl) ar.str) fun _=>fk.or1 (cg.not (cg.val (ar.nH rfl B.nH rfl B.list (by decide +kernel) (.inr (.inr (.inr (.inr rfl)))) (ar.r (ar.ixT (nm 8 rfl rfl) ar.int rfl)) rfl))))) (fun h=> ?_) fun h=>WS.nil ?_)
  ·have h':(!qQ "tuple" (D.tup [.str "plan", .lst (ws.map tD)]) || (!decide (("plan":Str)="plan") || !qQ "list" (D.lst (ws.map tD))))=true:=h;rw [decide_eq_true rfl]at h';cases h'
  refine WS.one (W1.ret (ar.and (ar.cI .le (ar.to (ar.lenL rfl B.len (ar.r (ar.ixT (nm 8 rfl rfl) ar.int rfl))) (by rw [ae])) (nm 5 rfl rfl)) fun _=>ar.one (ar.eq CM (ar.r (ar.call GW Vw (aP nx) rfl (fl,r,ws) (aU.cons (nm 1 rfl rfl) (aU.cons (nm 3 rfl rfl) (aU.cons (ar.ixT (nm 8 rfl rfl) ar.int rfl) aU.nil))) ⟨⟨_,o⟩,w1⟩ rfl)) (ar.r (nm 4 rfl rfl)) (g7 58 _) (g7 58 _))) ?_);show D.bl (decide ((ws.length:Int)<=(ts.length:Int))&&D.eqv (f9 (run r ws)) (f9 (run r ts)))=D.bl true;rw [w2,jS (g7 58 _),decide_eq_true hw];rfl
end
theorem Fb{fl:c5}(ns:List Int)(h:2<=fl.st/\fl.st<=4){n:Nat}(hn:n<=(small ns 7 fl).length):(fl.st=2/\n<=4)\/(fl.st=3/\n<=3)\/(fl.st=4/\n<=2):=by
 have hl:(small ns 7 fl).length=(jt ns 7 fl).toNat:=by unfold small; rw [ae,bS]
 rw [hl]at hn;have h4:=pQ ns 7 fl;have l2: ∀a:Int,least a 2<=2:=fun a=>by unfold least; split <;> omega
 have l3: ∀a:Int,least a 3<=3:=fun a=>by unfold least; split <;> omega
 have:fl.st=2\/fl.st=3\/fl.st=4:=by omega
 rcases this with e | e | e
 ·exact .inl ⟨e,by omega⟩
 ·refine .inr (.inl ⟨e, ?_⟩);have:jt ns 7 fl<=3:=by unfold jt; rw [if_pos e]; exact l3 _
  omega
 ·refine .inr (.inr ⟨e, ?_⟩);have h1:lD ns 7 fl<=2:=by
   unfold lD;rw [if_pos (by rw [decide_eq_true e,Bool.or_true])];exact l2 _
  have:jt ns 7 fl<=2:=by unfold jt; rw [if_neg (by omega)]; exact h1
  omega
theorem AR{a b:Rows}(h:o_ a.flatten=o_ b.flatten):a.flatten.length=b.flatten.length:=by
 have:=congrArg eS h;rw [qL,qL]at this;exact this
theorem Fi{f:c5}{qs:dQ}{r g:Rows}{wk:Bool}(t:iN f qs r g)(hw:wk=true->r∈(fO f g).map (·.1)): ∃(z:Str) (ds:List D),l7 f r g= .tup [.str z, .lst ds]/\(wk=true->z="plan")/\ds.length<=160000:=by
 by_cases rZ:r∈(fO f g).map (·.1)
 ·refine⟨"plan",_,if_pos rZ,fun _=>rfl, ?_⟩;rw [ae];have:=t.g.fin.low (t.way rZ).2.2;omega
 ·refine⟨"shut",_,if_neg rZ,fun h=>absurd (hw h) rZ, ?_⟩;rw [ae];unfold keys;rw [(gF (lt:=jQ) ((fO f r).map (·.1))).length_eq,ae];exact t.s.fin.len
section
variable {P:aH}{w:aW}{K:Frag}{mg:Str->Option af}{base:aY}{C CS CO CT:ai}
abbrev Tc:List Str:= ["script","floor","crates","start","goal","walked","cell","some","made","told"]
theorem M6:bM Tc ["script"] (aL Mg):=l8
set_option maxHeartbeats 4000000 in
theorem OQ{f:ai}{fd:bb}(nK: ∀a xs, ¬Ma K a xs)(B:Bm mg)(G1:wL P w K mg base (fP P w))(G2:BS P w K mg base (fP P w))(G3:oW P w K mg base (fP P w))(G4:CF P w K mg base (fP P w))(G5:DN P w K mg base (fP P w) C)(G6:yt P w K mg base (fP P w))(R_:wU P w K mg base C CS CO CT)(GB:kF P w K mg base (fP P w))(GC:mD P w K mg base (fP P w))(GR:CC P w K mg base C)(GG:Cf P w K mg base)
  (F:ji K "law" "law" Mg f fd):mZ P w K mg base (fP P w) 11 f fd ["script"] (Dm K):=by
 have GP:=rp R_;have nx:NX (fP P w):=kG;refine DE F M6 (fun i=>rfl) fun dX A outer s H E ns M0 hp hr=>⟨_,rfl, ?_⟩;have px:=M6.nd;have mj:eW 1 _:=hr.mono (by decide);have yP:eW 2 _:=hr.mono (by decide);have VL:eW 6 _:=hr.mono (by decide);have ZY:eW 9 _:=hr.mono (by decide);have hu:=pN hr;have CM:=jB hu;change WS _ M0 H (bo Mg) [.im (.lst (ns.map .int)), .un, .un, .un, .un, .un, .un, .un, .un, .un] {N:=fun _=>D.bl true= .non,R:=fun d'=>d'= .bl true};refine WS.cons (W1.set (i:=1) px rfl (.inl rfl) (fz rfl) (ar.call G2 yP (aP nx) rfl (ns,0,5) (aU.cons (nm 0 rfl rfl) (aU.cons ar.int (aU.cons ar.int aU.nil))) ⟨show 0 < 5 by decide,show 5 < 1000 by decide⟩ rfl) ?_);have hF:=Mr ns;generalize u4 ns 0 5=fl at hF;have f1:2<=fl.st/\fl.st<=4:=hF.st;have f2:1<=fl.ht/\fl.ht<=6:=hF.ht;refine WS.cons (W1.ite (fk.t (fk.and (cg.cI .gt (ar.ixT (nm 1 rfl rfl) ar.int rfl) ar.int) fun _=>fk.and1 (cg.cI .eq (ar.mod (ar.fdiv (ar.call G1 mj (aP nx) rfl (ns,7) (aU.cons (nm 0 rfl rfl) (aU.cons ar.int aU.nil)) trivial rfl) ar.int ⟨by decide,by decide⟩) ar.int (by decide)) ar.int))) (fun _=>WS.one (W1.ret (ar.call GG hr (aP nx) rfl (ns,fl) (aU.cons (nm 0 rfl rfl) (aU.cons (nm 1 rfl rfl) aU.nil)) hF rfl) rfl)) fun _=>WS.nil ?_);refine WS.cons (W1.set (i:=2) px rfl (.inl rfl) (fz rfl) (ar.call G4 yP (aP nx) rfl (ns,7,fl) (aU.cons (nm 0 rfl rfl) (aU.cons ar.int (aU.cons (nm 1 rfl rfl) aU.nil))) trivial rfl) ?_);have RE:=Fy ns 7 fl;have A0:=fun{n:Nat}=>Fb (fl:=fl) ns f1 (n:=n);rw [show small (ns,7,fl).1 (ns,7,fl).2.1 (ns,7,fl).2.2=small ns 7 fl from rfl];generalize small ns 7 fl=cr at RE A0;refine WS.cons (W1.set (i:=3) px rfl (.inl rfl) (fz rfl) (ar.call G3 yP (aP nx) rfl (fl,cellAt ns 8 % 2147483647,cr) (aU.cons (nm 1 rfl rfl) (aU.cons (ar.mod (ar.call G1 mj (aP nx) rfl (ns,8) (aU.cons (nm 0 rfl rfl) (aU.cons ar.int aU.nil)) trivial rfl) ar.int (by decide)) (aU.cons (nm 2 rfl rfl) aU.nil))) ⟨f1.1,f1.2,bg RE (by decide)⟩ rfl) ?_);refine WS.cons (W1.set (i:=4) px rfl (.inl rfl) (fz rfl) (ar.call G3 yP (aP nx) rfl (fl,cellAt ns 9 % 2147483647,cr) (aU.cons (nm 1 rfl rfl) (aU.cons (ar.mod (ar.call G1 mj (aP nx) rfl (ns,9) (aU.cons (nm 0 rfl rfl) (aU.cons ar.int aU.nil)) trivial rfl) ar.int (by decide)) (aU.cons (nm 2 rfl rfl) aU.nil))) ⟨f1.1,f1.2,bg RE (by decide)⟩ rfl) ?_);have rC:=lA (f:=fl) (cell:=cellAt ns 8 % 2147483647) (crates:=cr) (by omega) (by omega);have XW:=my fl (cellAt ns 8 % 2147483647) cr;have mK:=lA (f:=fl) (cell:=cellAt ns 9 % 2147483647) (crates:=cr) (by omega) (by omega);have Zb:=my fl (cellAt ns 9 % 2147483647) cr;generalize dW fl (cellAt ns 8 % 2147483647) cr=r at rC XW;generalize dW fl (cellAt ns 9 % 2147483647) cr=g0 at mK Zb;have hS:gu fl (iu fl.fK):=⟨hF,bg (Ak _) hF.iT,fun p=>nZ p _⟩;have o:dE fl (iu fl.fK) r:=⟨hS,rC,by omega⟩;have o0:dE fl (iu fl.fK) g0:=⟨hS,mK,by omega⟩;have fr:qE fl r:=A0 XW;refine WS.cons (W1.set (i:=5) px rfl (.inl rfl) (fz rfl) (ar.cI .gt (ar.mod (ar.fdiv (ar.call G1 mj (aP nx) rfl (ns,7) (aU.cons (nm 0 rfl rfl) (aU.cons ar.int aU.nil)) trivial rfl) ar.int ⟨by decide,by decide⟩) ar.int (by decide)) ar.int) ?_);generalize decide (cellAt (ns,7).1 (ns,7).2 / 24 % 3 > 0)=wk;refine WS.cons (P:=_) (W1.imp (P:={N:=fun ma=> ∃(g:Rows) (a6 a7:Sl),ma= [.im (.lst (ns.map .int)), .im fl.d, .im (.lst (cr.map .int)), .im (rT r), .im (rT g), .im (.bl wk),a6,a7, .un, .un]/\iN fl (iu fl.fK) r g/\(wk=true->r∈(fO fl g).map (·.1)),R:=fun _=>False}) (W1.ite (fk.t (fk.or (cg.val (nm 5 rfl rfl)) fun _=>fk.or1 (cg.ne CM (ar.r (ar.call G6 mj (aP nx) rfl r (aU.cons (nm 3 rfl rfl) aU.nil) (show r.flatten.length < 64 by omega) rfl)) (ar.r (ar.call G6 mj (aP nx) rfl g0 (aU.cons (nm 4 rfl rfl) aU.nil) (show g0.flatten.length < 64 by omega) rfl)) (oA 59 _) (oA 59 _)))) (fun h=> ?_) fun h=>WS.nil ?_) ?_ (fun _ z=>z.elim) (fun _ z=>z.elim) fun _ z=>z.elim)
 ·refine WS.cons (W1.set (i:=4) px rfl (.inl rfl) (fz rfl) (nm 3 rfl rfl) ?_);refine WS.one (W1.for (ds:=cutD (ns.map .int) (some 10) (some 22)) (fun n ρ=> ∃(ts:List jf) (a6 a7:Sl),ρ= [.im (.lst (ns.map .int)), .im fl.d, .im (.lst (cr.map .int)), .im (rT r), .im (rT (run r ts)), .im (.bl wk),a6,a7, .un, .un]/\Path fl r ts) bu rfl (iU.list (dF.toD (dF.cutL (ar.r (nm 0 rfl rfl)) (tK.some ar.int) (tK.some ar.int)))) ⟨[],_,_,rfl,trivial⟩ ?_ ?_)
  ·rintro n d ρ hd ⟨ts,a6,a7,rfl,p⟩;obtain⟨v,rfl⟩:=DY hd;have o':=o.run p;refine⟨_,sW.name (i:=6) px rfl (.inl rfl) (fz rfl), ?_⟩;refine WS.cons (W1.set (i:=7) px rfl (.inl rfl) (fz rfl) (ar.call GB yP (aP nx) rfl (fl,run r ts) (aU.cons (nm 1 rfl rfl) (aU.cons (nm 4 rfl rfl) aU.nil)) ⟨hF,o'.gd⟩ rfl) ?_);refine WS.one (W1.ite (cg.ne CM (ar.r (nm 7 rfl rfl)) (ar.r (dF.toD (dF.lst aU.nil))) (fun d hd=>uK 58 _ d hd) Jk) (fun h=> ?_) fun h=>WS.nil ⟨ts,_,_,rfl,p⟩);have ja:lets fl (run r ts)≠ []:=by
    have h':(!D.eqv (.lst ((lets fl (run r ts)).map tD)) (.lst []))=true:=h;rw [IT]at h';simpa using h'
   obtain⟨t,ht,PR⟩:=pick ja v;have hl:=(lB hF).mp ht;obtain⟨hc,_⟩:=j4 hl;refine WS.one (W1.set (i:=4) px rfl (.inl rfl) (fz rfl) (ar.call GC mj (aP nx) rfl (run r ts,t) (aU.cons (nm 4 rfl rfl) (aU.cons (ar.ixL (ar.r (nm 7 rfl rfl)) (ar.mod (nm 6 rfl rfl) (ar.lenL rfl B.len (ar.r (nm 7 rfl rfl))) (by rw [ae]; have:=qO.mpr ja; show(0:Int) < ((lets fl (run r ts)).length:Int); omega)) PR) aU.nil)) ⟨hc.mvOk (dS o'.gd) o'.sm,hc.ne⟩ rfl) ?_);refine⟨ts ++ [t], .im (.int v), .im (.lst ((lets fl (run r ts)).map tD)), ?_,p.app hl⟩;rw [xP];rfl
  ·rintro ρ ⟨ts,a6,a7,rfl,p⟩;obtain⟨m,hm,_⟩:=iN.there o p;exact⟨run r ts,a6,a7,rfl,iN.of_path o p,fun _=>aE.mpr ⟨_,hm,rfl⟩⟩
 ·have h':(wk || !D.eqv (.lst ((o_ r.flatten).map .int)) (.lst ((o_ g0.flatten).map .int)))=false:=h;rw [uV]at h';obtain⟨h1,h2⟩:=FT.mp h';have h3:o_ r.flatten=o_ g0.flatten:=by simpa using h2
  exact⟨g0,_,_,rfl,⟨o,o0,h3⟩,fun z=>by rw [h1]at z; cases z⟩
 rintro ρ ⟨g,a6,a7,rfl,tw,hwk⟩;have fg:qE fl g:=by
  have:=AR tw.same;unfold qE at fr ⊢;rw [<-this];exact fr
 have YZ:iN fl (iu fl.fK) g r:=⟨tw.g,tw.s,tw.same.symm⟩;refine WS.cons (W1.set (i:=8) (d:=g9 C fl (iu fl.fK)) px rfl (.inl rfl) (fz rfl) (Kv.exact (d:=g9 C fl (iu fl.fK)) (We (i:=fl) G5 VL (aP nx) rfl (aU.cons (ar.ixT (nm 1 rfl rfl) ar.int rfl) (aU.cons (ar.ixT (nm 1 rfl rfl) ar.int rfl) (aU.cons (ar.ixT (nm 1 rfl rfl) ar.int rfl) (aU.cons (dF.toD (dF.listL rfl B.list (ar.r (ar.ixT (nm 1 rfl rfl) ar.int rfl)))) aU.nil)))) hF) fun d' ⟨ds,e1,qs,e2,e3⟩=>by subst e1 e2 e3; rfl) ?_);refine WS.cons (W1.ite (fk.t (fk.or (cg.not (cg.val (ar.call GR hr (aP nx) rfl (fl,iu fl.fK,r,g) (aU.cons (nm 8 rfl rfl) (aU.cons (nm 1 rfl rfl) (aU.cons (nm 3 rfl rfl) (aU.cons (nm 4 rfl rfl) aU.nil)))) ⟨tw,fr⟩ rfl))) fun _=>fk.or1 (cg.not (cg.val (ar.call GR hr (aP nx) rfl (fl,iu fl.fK,g,r) (aU.cons (nm 8 rfl rfl) (aU.cons (nm 1 rfl rfl) (aU.cons (nm 4 rfl rfl) (aU.cons (nm 3 rfl rfl) aU.nil)))) ⟨YZ,fg⟩ rfl))))) (fun h=>by cases h) fun h=>WS.nil ?_);obtain⟨z,ds,et,hz,My⟩:=Fi tw hwk;intro γ α σ H1 R;refine IA (ii:=(fl,iu fl.fK,r,g)) (j:=9) (d0:= .str z) (ds:=ds) nK rfl px rfl (.inl rfl) GP ZY (aP nx) rfl (aU.cons (nm 8 rfl rfl) (aU.cons (nm 3 rfl rfl) (aU.cons (nm 4 rfl rfl) aU.nil))) (fun d hd=> ?_) tw (congrArg qk et) R fun tt a xs u H3 s3 ha h3 lx Zq ZF=> ?_
 ·have:d=g9 C fl (iu fl.fK)\/d=rT r\/d=rT g:=by simpa using hd
  rcases this with rfl | rfl | rfl
  ·exact HU C fl _
  ·exact iD 7 r
  ·exact iD 7 g
 have R3:Rep K M0 H γ α [.im (.lst (ns.map .int)), .im fl.d, .im (.lst (cr.map .int)), .im (rT r), .im (rT g), .im (.bl wk),a6,a7, .im (g9 C fl (iu fl.fK)), .im (.tup [.str z, .lst ds])] (σ.set 9 (some (.ref tt))) H3:=(R.next s3).set_im (i:=9) (fz rfl) (ZF.less (i6 R (bQ.refl _)));refine P_ (cg.to (fk.t (fk.and (cg.val (nm 5 rfl rfl)) fun _=>fk.and1 (cg.neS (ar.ixT (nm 9 rfl rfl) ar.int rfl) ar.str))) ?_) R3 fun H4 s4=> ?_
 ·cases wk with
  | false=>rfl
  | true=>rw [hz rfl,decide_eq_true rfl]; rfl
 have R4:=R3.next s4;refine(dh rV gr).to (Ob (i:=9) rfl (.inl rfl) R4 (mz (by rw [R.len]; exact fz rfl)) ((yd (M:=PB) s4).tup Zq) (s4 _ _ h3) (by rw [lx]; omega) (ar.tup (aU.cons ar.int (aU.cons ar.int (aU.cons ar.int aU.nil)))) (fun H5 v s5=> ?_) ⟨rfl,rfl,rfl,rfl⟩);have R6:=(R.forget (i:=9) (ov:=some (.ref tt))).updNew (ys:=xs ++ [v]) ha (s3.trans (s4.trans s5)) ((s4.trans s5) _ _ h3);refine(?_:WS _ M0 H _ [.im (.lst (ns.map .int)), .im fl.d, .im (.lst (cr.map .int)), .im (rT r), .im (rT g), .im (.bl wk),a6,a7, .im (g9 C fl (iu fl.fK)), .un] {N:=fun _=>D.bl true= .non,R:=fun d'=>d'= .bl true}) γ α _ _ R6;exact WS.one (W1.ret (ar.call GR hr (aP nx) rfl (fl,iu fl.fK,r,g) (aU.cons (nm 8 rfl rfl) (aU.cons (nm 1 rfl rfl) (aU.cons (nm 3 rfl rfl) (aU.cons (nm 4 rfl rfl) aU.nil)))) ⟨tw,fr⟩ rfl) rfl)
end
end K
namespace Z
open PySem PySem.Spec PyProof.Rows L2
section
variable {K:Frag}{x q:Str}{st:cF}{f C:ai}{fd:bb}{a b c d e:Str}
def dR(K:Frag)(x:Str)(st:cF):Prop:= ∃f fd,gM K cz x=some (some (.ref f))/\ji K x x st f fd
theorem OI{oc:af}{od an:Option ai}{vK:Array (Option af)}{kV doc pm dX ct:af}(a:gM K cz x=some (some (.ref f)))(l:K.lookup f=some ⟨oc,od, .func (eP x x (i7 st) (bo st) (aL st) .none kV doc pm an dX ct),vK⟩)
  (c:qa K dX x=true)(k:gz K (.ref f)=true):dR K x st:=⟨f,_,a,IW l c k⟩
theorem dR.get{h:aY}{mg:Str->Option af}(d:dR K x st)(KX:K.In h)(G:h.Ns cz mg): ∃f fd,mg x=some (.ref f)/\ji K x x st f fd:=let⟨f,fd,a,F⟩:=d; ⟨f,fd,mS KX G a,F⟩
def MethAt(K:Frag)(C:ai)(x q:Str)(st:cF):Prop:= ∃f fd,cA K (.ref C) x=some (some (.ref f))/\sv K (.ref f)=true/\ji K x q st f fd
theorem Mc{oc:af}{od an:Option ai}{vK:Array (Option af)}{kV doc pm dX ct:af}(a:cA K (.ref C) x=some (some (.ref f)))(i:sv K (.ref f)=true)(l:K.lookup f=some ⟨oc,od, .func (eP x q (i7 st) (bo st) (aL st) .none kV doc pm an dX ct),vK⟩)
  (c:qa K dX q=true)(k:gz K (.ref f)=true):MethAt K C x q st:=⟨f,_,a,i,IW l c k⟩
def pK(K:Frag)(x:Str):Prop:=gM K cz x=some none
def mU(K:Frag)(x:Str)(z:Int):Prop:= ∃t,gM K cz x=some (some (.int z t))
theorem int_mk{v:af}{z:Int}(g:gM K cz x=some (some v))(h: ∃t,v= .int z t):mU K x z:=let⟨t,e⟩:=h; ⟨t,e▸g⟩
theorem GV(F:ji K x q st f fd)(h: ∀(kV doc pm:af) (an:Option ai) (dX ct v:af),sA (eP x q (i7 st) (bo st) (aL st) .none kV doc pm an dX ct) ⟨[v], []⟩=pure [(a,v)]:=by intros; rfl):Binds K fd [a] []:=F.binds fun _ _ _ _ _ _ us hl=>by
 obtain⟨_,rfl⟩:=S9 us hl;exact h ..
theorem Bs(F:ji K x q st f fd)(h: ∀(kV doc pm:af) (an:Option ai) (dX ct v v2:af),sA (eP x q (i7 st) (bo st) (aL st) .none kV doc pm an dX ct) ⟨[v,v2], []⟩=pure [(a,v),(b,v2)]:=by intros; rfl):Binds K fd [a,b] []:=F.binds fun _ _ _ _ _ _ us hl=>by
 obtain⟨_,_,rfl⟩:=Te us hl;exact h ..
theorem Ku(F:ji K x q st f fd)(h: ∀(kV doc pm:af) (an:Option ai) (dX ct v v2 v3:af),sA (eP x q (i7 st) (bo st) (aL st) .none kV doc pm an dX ct) ⟨[v,v2,v3], []⟩=pure [(a,v),(b,v2),(c,v3)]:=by intros; rfl):Binds K fd [a,b,c] []:=F.binds fun _ _ _ _ _ _ us hl=>by
 obtain⟨_,_,_,rfl⟩:=Tb us hl;exact h ..
theorem Wa(F:ji K x q st f fd)(h: ∀(kV doc pm:af) (an:Option ai) (dX ct v v2 v3 v4:af),sA (eP x q (i7 st) (bo st) (aL st) .none kV doc pm an dX ct) ⟨[v,v2,v3,v4], []⟩=pure [(a,v),(b,v2),(c,v3),(d,v4)]:=by intros; rfl):Binds K fd [a,b,c,d] []:=F.binds fun _ _ _ _ _ _ us hl=>by
 obtain⟨_,_,_,_,rfl⟩:=Ts us hl;exact h ..
theorem X9(F:ji K x q st f fd)(h: ∀(kV doc pm:af) (an:Option ai) (dX ct v v2 v3 v4 v5:af),sA (eP x q (i7 st) (bo st) (aL st) .none kV doc pm an dX ct) ⟨[v,v2,v3,v4,v5], []⟩=pure [(a,v),(b,v2),(c,v3),(d,v4),(e,v5)]:=by intros; rfl):Binds K fd [a,b,c,d,e] []:=F.binds fun _ _ _ _ _ _ us hl=>by
 obtain⟨_,_,_,_,_,rfl⟩:=Ui us hl;exact h ..
end
end Z
namespace K
open PySem L2 Z
theorem all_mk{l:NL}{w:aW}{K:Frag}{h:aY}{mg:Str->Option af}{fa:ai}(KX:K.In h)(G:h.Ns cz mg)(Zi:mg "law"=some (.ref fa))
  {cm fL jJ jv:ai}
  (u9:gM K cz "Floor"=some (some (.ref cm)))
  (D0:dR K "_law_cell_at" Hl)
  (D1:dR K "_law_floor" B3)
  (D2:dR K "_law_good" Je)
  (D3:dR K "_law_standing" oz)
  (D4:dR K "is_within" yD)
  (D5:dR K "is_crate" CB)
  (D6:dR K "is_ban" CD)
  (D7:dR K "are_bans" tZ)
  (D8:dR K "is_good_stack" mC)
  (D9:dR K "is_good" sM)
  (Uj:dR K "is_stack" qr)
  (Uk:dR K "can_be_done" LN)
  (Ul:dR K "moved" yk)
  (Um:dR K "is_let" x3)
  (Uo:dR K "refuse_unless_good" qG)
  (Uq:dR K "lifts" uL)
  (Ur:dR K "crates_of" oM)
  (Us:dR K "refuse_too_many" nP)
  (Ut:dR K "heights_above" uq)
  (Uu:dR K "lowering_lifts" tP)
  (Uv:dR K "way_down" HK)
  (Uw:dR K "come_to" mG)
  (Ux:dR K "heights" kH)
  (Uy:dR K "plan" mX)
  (Uz:dR K "_law_whole" Cm)
  (UA:dR K "_law_tuple" xT)
  (UB:dR K "_law_stands" sU)
  (UC:dR K "_law_behind" sR)
  (UD:dR K "_law_lifts" oK)
  (UE:dR K "_law_small" yH)
  (UG:dR K "_law_crates" sT)
  (UH:dR K "_law_walked" sS)
  (UI:dR K "_law_shut" xj)
  (UJ:dR K "_law_right" xX)
  (UK:dR K "_law_great" x_)
  (UL:dR K "law" Mg)
  (u_:MethAt K cm "__init__" "Floor.__init__" zv)
  (va:MethAt K cm "stacks" "Floor.stacks" (Gb 1))
  (vb:MethAt K cm "height" "Floor.height" (Gb 2))
  (vc:MethAt K cm "lift" "Floor.lift" (Gb 3))
  (vd:MethAt K cm "bans" "Floor.bans" (Gb 4))
  (ve:nc K cm Str.empty=true)
  (vf:su K cm=true)
  (vg:KR K cm=true)
  (vh:cA K (.ref cm) "__setattr__"=some (some (.builtin "object.__setattr__")))
  (vi:NK K cm=true)
  (vj:gz K (.ref cm)=true)
  (hJ:cA K (.ref cm) "stack_count"=some none)
  (hV:cA K (.ref cm) "most_crates"=some none)
  (gw:cA K (.ref cm) "crane_strength"=some none)
  (gY:cA K (.ref cm) "banned_pairs"=some none)
  (lE:gM K cz "NoStanding"=some (some (.ref fL)))
  (kJ:gM K cz "OtherCrates"=some (some (.ref jJ)))
  (pU:gM K cz "TooMany"=some (some (.ref jv)))
  (lG:km K fL EA "ValueError.__new__"=true)
  (kK:km K jJ EA "ValueError.__new__"=true)
  (pV:km K jv EA "ValueError.__new__"=true)
  (nl:MX K=true)
  (Jx:pK K "len")
  (yL:pK K "range")
  (CG:pK K "list")
  (yM:pK K "tuple")
  (Jy:pK K "set")
  (mH:pK K "isinstance")
  (Jz:pK K "int")
  (CH:pK K "bool")
  (JA:pK K "all")
  (JB:pK K "any")
  (JC:pK K "zip")
  (vk:pK K "sorted")
  (JD:pK K "min")
  (j7:mU K "FEWEST_STACKS" 2)
  (lH:mU K "MOST_STACKS" 4)
  (j8:mU K "LOWEST_HEIGHT" 1)
  (i8:mU K "GREATEST_HEIGHT" 6)
  (j9:mU K "WEAKEST_CRANE" 1)
  (i9:mU K "STRONGEST_CRANE" 3)
  (n_:mU K "MOST_BANS" 20)
  (lI:mU K "FIRST_CRATE" 0)
  (mI:mU K "LAST_CRATE" 9)
  (lJ:mU K "MOST_CRATES" 4):
  ∃fd:bb,(∀(s:aj) (v:af),BindsTo s fd ⟨[v], []⟩ [("script",v)])/\ ∀base:aY,K.In base->base.Ns cz mg->mZ l.prog w K mg base (fP l.prog w) 11 fa fd ["script"] (Dm K):=by
 obtain⟨_,_,m0,F0⟩:=D0.get KX G;obtain⟨_,_,m1,F1⟩:=D1.get KX G;obtain⟨_,_,m2,F2⟩:=D2.get KX G;obtain⟨_,_,m3,F3⟩:=D3.get KX G;obtain⟨_,_,m4,F4⟩:=D4.get KX G;obtain⟨_,_,m5,F5⟩:=D5.get KX G;obtain⟨_,_,m6,F6⟩:=D6.get KX G;obtain⟨_,_,m7,F7⟩:=D7.get KX G;obtain⟨_,_,m8,F8⟩:=D8.get KX G;obtain⟨_,_,m9,F9⟩:=D9.get KX G;obtain⟨_,_,Yc,Wk⟩:=Uj.get KX G;obtain⟨_,_,Yd,Wl⟩:=Uk.get KX G;obtain⟨_,_,Ye,Wm⟩:=Ul.get KX G;obtain⟨_,_,Yf,Wn⟩:=Um.get KX G;obtain⟨_,_,Yg,Wo⟩:=Uo.get KX G;obtain⟨_,_,Yh,Wq⟩:=Uq.get KX G;obtain⟨_,_,Yi,Wr⟩:=Ur.get KX G;obtain⟨_,_,Yj,Ws⟩:=Us.get KX G;obtain⟨_,_,Yk,Wt⟩:=Ut.get KX G;obtain⟨_,_,Yl,Wu⟩:=Uu.get KX G;obtain⟨_,_,Ym,Wv⟩:=Uv.get KX G;obtain⟨_,_,Yn,Ww⟩:=Uw.get KX G;obtain⟨_,_,Yo,Wx⟩:=Ux.get KX G;obtain⟨_,_,Yp,Wy⟩:=Uy.get KX G;obtain⟨_,_,Yq,Wz⟩:=Uz.get KX G;obtain⟨_,_,Yr,WA⟩:=UA.get KX G;obtain⟨_,_,Ys,WB⟩:=UB.get KX G;obtain⟨_,_,Yt,WC⟩:=UC.get KX G;obtain⟨_,_,Yu,WD⟩:=UD.get KX G;obtain⟨_,_,Yv,WE⟩:=UE.get KX G;obtain⟨_,_,Yw,WG⟩:=UG.get KX G;obtain⟨_,_,Yx,WH⟩:=UH.get KX G;obtain⟨_,_,Yy,WI⟩:=UI.get KX G;obtain⟨_,_,Yz,WJ⟩:=UJ.get KX G;obtain⟨_,_,YA,WK⟩:=UK.get KX G;obtain⟨_,fd,YB,WL⟩:=UL.get KX G;cases Zi.symm.trans YB;obtain⟨_,_,JE,JF,AX⟩:=u_;obtain⟨_,_,JG,JH,vm⟩:=va;obtain⟨_,_,JI,JJ,vn⟩:=vb;obtain⟨_,_,JK,JL,vo⟩:=vc;obtain⟨_,_,JM,JN,vp⟩:=vd;have nx:NX (fP l.prog w):=kG;have ci: ∀{x:Str} {z:Int},mU K x z-> ∃t,mg x=some (.int z t):=fun⟨t,g⟩=>⟨t,mS KX G g⟩;have un: ∀{x:Str},pK K x->mg x=none:=fun z=>PySem.W.mg_none_of KX G z;have JO:=mS KX G u9;have JP:BN K cm:=⟨ve,vf,vg,vh⟩;have wj:=mS KX G lE;have vq:=mS KX G kJ;have CJ:=mS KX G pU;have B:Bm mg:={len:=un Jx,range:=un yL,list:=un CG,tuple:=un yM,set:=un Jy,nH:=un mH,int:=un Jz,bool:=un CH,all:=un JA,any:=un JB,zip:=un JC,sorted:=un vk,min:=un JD,iT:=ci j7,most:=ci lH,low:=ci j8,great:=ci i8,weak:=ci j9,GJ:=ci i9,MZ:=ci n_,fst:=ci lI,lst:=ci mI};have T:Od K cm:=⟨JP,hJ,hV,gw,gY⟩;refine⟨fd,fun s v=> ?_,fun base KB GB=> ?_⟩
 ·obtain⟨_,_,_,_,_,_,_,_,_,rfl,_⟩:=WL.ex;exact .of_eq rfl
 have G0:wL l.prog w K mg base (fP l.prog w):=Ll B.toBn F0 m0 (Bs F0);have G1:BS l.prog w K mg base (fP l.prog w):=IM nx B.toBn G0 F1 m1 (Ku F1);have G2:zk l.prog w K mg base (fP l.prog w):=L_ nx B.toBn F2 m2 (Bs F2);have G3:oW l.prog w K mg base (fP l.prog w):=Ar nx B.toBn G2 F3 m3 (Ku F3);have G4:oB l.prog w K mg base (fP l.prog w):=EE B F4 m4 (Ku F4);have G5:xZ l.prog w K mg base (fP l.prog w):=HW nx B G4 F5 m5 (GV F5);have G6:Co l.prog w K mg base (fP l.prog w):=Iw nx B G5 F6 m6 (GV F6);have G7:uf l.prog w K mg base (fP l.prog w):=Cs nx B G6 F7 m7 (GV F7);have L:Fl l.prog w K mg base (fP l.prog w) cm:=⟨T,E8 T vm ⟨JG,JH,vm.kp⟩ (GV vm),Fq T vn ⟨JI,JJ,vn.kp⟩ (GV vn),KZ T vo ⟨JK,JL,vo.kp⟩ (GV vo),K5 B T vp ⟨JM,JN,vp.kp⟩ (GV vp)⟩;have GM:DN l.prog w K mg base (fP l.prog w) cm:=LI nx B T G4 G7 AX ⟨vi,JE,JF,vj⟩ JO (X9 AX);have G8:pP l.prog w K mg base (fP l.prog w) cm:=xC nx B L G5 F8 m8 (Bs F8);have G9:tq l.prog w K mg base (fP l.prog w) cm:=EV nx B L G8 F9 m9 (Bs F9);have YC:uG l.prog w K mg base (fP l.prog w) cm:=Ck nx L G4 Wk Yc (Bs Wk);have YD:OO l.prog w K mg base (fP l.prog w) cm:=Oa nx B L YC G4 Wl Yd (Ku Wl);have Sw:rg l.prog w K mg base (fP l.prog w):=Hu B Wm Ye (Bs Wm);have YE:Cy l.prog w K mg base (fP l.prog w) cm:=Iy nx YD G9 Sw Wn Yf (Ku Wn);have YF:AB "NoStanding" fL mg base:=yo KB wj lG;have EO:AB "OtherCrates" jJ mg base:=yo KB vq kK;have EM:AB "TooMany" jv mg base:=yo KB CJ pV;have Sz:kI l.prog w K mg base cm fL:=Cg YF G9 Wo Yg (Bs Wo);have YG:yl l.prog w K mg base cm fL:=FC B L Sz YE Wq Yh (Bs Wq);have GL:yu l.prog w K mg base (fP l.prog w) cm:=B_ YG;have WM:oy l.prog w K mg base (fP l.prog w):=Al B Wr Yi (GV Wr);have UM:nJ l.prog w K mg base jv:=Cp EM (ci lJ) B WM Ws Yj (GV Ws);have UN:tV l.prog w K mg base (fP l.prog w) cm:=Im nx B GL Sw Wt Yk (Bs Wt);have YH:Ca l.prog w K mg base (fP l.prog w) cm:=Hg nx B GL Sw Wu Yl (Ku Wu);have YI:NV l.prog w K mg base (fP l.prog w) cm:=Oe nx B YH Sw Wv Ym (Ku Wv);have YJ:tx l.prog w K mg base cm fL jv:=Ft B Sz UM UN Ww Yn (Bs Ww);have YK:qK l.prog w K mg base cm fL jv:=BW B Sz UM UN Wx Yo (Bs Wx);have UO:wU l.prog w K mg base cm fL jJ jv:=K6 EO B Sz UM UN WM YI Wy Yp (Ku Wy);have YL:Cv l.prog w K mg base (fP l.prog w):=Gy B Wz Yq (GV Wz);have WN:yq l.prog w K mg base (fP l.prog w):=GY nx B YL WA Yr (Bs WA);have YM:yp l.prog w K mg base (fP l.prog w):=Fm nx B WN WB Ys (Bs WB);have QR:mD l.prog w K mg base (fP l.prog w):=Fx B WC Yt (Bs WC);have SA:kF l.prog w K mg base (fP l.prog w):=Ax nx B G2 QR WD Yu (Bs WD);have YN:CF l.prog w K mg base (fP l.prog w):=Iq nx B G0 WE Yv (Ku WE);have YO:yt l.prog w K mg base (fP l.prog w):=Ey B WG Yw (GV WG);have WO:sO l.prog w K mg base (fP l.prog w):=EX nx B WN SA QR WH Yx (Ku WH);have YQ:Ib l.prog w K mg base (fP l.prog w):=LK nx B YM G2 SA QR WI Yy (Wa WI);have YR:CC l.prog w K mg base cm:=IB B UO YK YJ WO YQ WJ Yz (Wa WJ);have YS:Cf l.prog w K mg base:=Hf B G0 G3 GM UO SA QR WO WK YA (Bs WK);exact OQ (Ia nl) B G0 G1 G3 YN GM YO UO SA QR YR YS WL
end K
open PySem PySem.W PyProof.Rows
def PySem.W.Fast.tw18264334920184525177:Unit:=()
def PySem.W.Fast.tw2511202816530350648:Unit:=()
def PySem.W.Fast.tw2969528670124311543:Unit:=()
def PySem.W.Fast.tw14505068111587954686:Unit:=()
def PySem.W.Fast.tw17959858816774479198:Unit:=()
def PySem.W.Fast.tw6292375473206834662:Unit:=()
def PySem.W.Fast.tw5008796325891142835:Unit:=()
def PySem.W.Fast.tw11487672951252358299:Unit:=()
def PySem.W.Fast.tw12667625753097218671:Unit:=()
def PySem.W.Fast.tw13060823458267650834:Unit:=()
def PySem.W.Fast.tw1349896302166166653:Unit:=()
def PySem.W.Fast.tw14880890482786267206:Unit:=()
def PySem.W.Fast.tw5939511758401571378:Unit:=()
def PySem.W.Fast.tw3896617476315331547:Unit:=()
def PySem.W.Fast.tw17867462894837901521:Unit:=()
def PySem.W.Fast.tw843477306896837795:Unit:=()
def PySem.W.Fast.tw12183388479601804771:Unit:=()
def PySem.W.Fast.tw1563309464476546893:Unit:=()
def PySem.W.Fast.tw9918545869562542286:Unit:=()
def PySem.W.Fast.tw7162084045731430996:Unit:=()
def PySem.W.Fast.tw10214480043283936680:Unit:=()
def PySem.W.Fast.tw17005433806732666944:Unit:=()
def PySem.W.Fast.tw5158936654861457087:Unit:=()
def PySem.W.Fast.tw6755984073108127231:Unit:=()
def PySem.W.Fast.tw2102098569643126081:Unit:=()
def PySem.W.Fast.tw7633064098704474423:Unit:=()
def PySem.W.Fast.tw12144118411167340237:Unit:=()
def PySem.W.Fast.tw1819130298198972712:Unit:=()
def PySem.W.Fast.tw6845418624643872469:Unit:=()
def PySem.W.Fast.tw13462233455936784849:Unit:=()
def PySem.W.Fast.tw7398110227879933832:Unit:=()
def PySem.W.Fast.tw11164888280964635183:Unit:=()
def PySem.W.Fast.tw10581490534745850841:Unit:=()
def PySem.W.Fast.tw1899042306727789871:Unit:=()
def PySem.W.Fast.tw15934680330303702972:Unit:=()
def PySem.W.Fast.tw16060521342026481040:Unit:=()
def PySem.W.Fast.tw450281873229331381:Unit:=()
def PySem.W.Fast.tw15842665861217485057:Unit:=()
def PySem.W.Fast.tw521570354707763457:Unit:=()
def PySem.W.Fast.tw15357251240185476989:Unit:=()
def PySem.W.Fast.tw4751228492994296897:Unit:=()
def PySem.W.Fast.tw17854338665881011037:Unit:=()
def PySem.W.Fast.tw12308523088915632677:Unit:=()
def PySem.W.Fast.tw8749143782507873455:Unit:=()
def PySem.W.Fast.tw14723917207264922916:Unit:=()
def PySem.W.Fast.tw1721942763258219088:Unit:=()
def PySem.W.Fast.tw1379817698557701540:Unit:=()
def PySem.W.Fast.tw9001529313107916539:Unit:=()
def PySem.W.Fast.tw7981046791133961607:Unit:=()
def PySem.W.Fast.tw12363944041517684836:Unit:=()
def PySem.W.Fast.tw6811572131789456146:Unit:=()
def PySem.W.Fast.tw15605045642841115849:Unit:=()
def PySem.W.Fast.tw7852620620155598860:Unit:=()
def PySem.W.Fast.tw2117233663890877385:Unit:=()
def PySem.W.Fast.tw9997777538168959270:Unit:=()
def PySem.W.Fast.tw1516450443762434057:Unit:=()
def PySem.W.Fast.tw3488519231212259185:Unit:=()
def PySem.W.Fast.tw12657277088113957471:Unit:=()
def PySem.W.Fast.tw9503480920398875985:Unit:=()
def PySem.W.Fast.tw4409061456380969405:Unit:=()
def PySem.W.Fast.tw17844619077929130212:Unit:=()
def PySem.W.Fast.tw3302422395014765942:Unit:=()
def PySem.W.Fast.tw5134968538285698744:Unit:=()
def PySem.W.Fast.tw779065248036849974:Unit:=()
def PySem.W.Fast.tw8954951354531325887:Unit:=()
def PySem.W.Fast.tw6876578589915959886:Unit:=()
def PySem.W.Fast.tw5278163197735156554:Unit:=()
def PySem.W.Fast.tw4684654281737380888:Unit:=()
def PySem.W.Fast.tw14392596497295512408:Unit:=()
def PySem.W.Fast.tw12065799073296617905:Unit:=()
def PySem.W.Fast.tw4425722933139003091:Unit:=()
def PySem.W.Fast.tw10564731533227168248:Unit:=()
def PySem.W.Fast.tw5382350527624494520:Unit:=()
def PySem.W.Fast.tw6425053370305229784:Unit:=()
def PySem.W.Fast.tw12913313268624591020:Unit:=()
def PySem.W.Fast.tw17145408559521655270:Unit:=()
def PySem.W.Fast.tw8075649081700269427:Unit:=()
def PySem.W.Fast.tw16905593922201673783:Unit:=()
def PySem.W.Fast.tw15917119905691417681:Unit:=()
def PySem.W.Fast.tw3536896676565359825:Unit:=()
def PySem.W.Fast.tw4674459364765220882:Unit:=()
def PySem.W.Fast.tw10998256391427780210:Unit:=()
def PySem.W.Fast.tw10637648907520890043:Unit:=()
def PySem.W.Fast.tw12967276558616550086:Unit:=()
def PySem.W.Fast.tw6880401892057516279:Unit:=()
def PySem.W.Fast.tw6641974860100836897:Unit:=()
def PySem.W.Fast.tw7991992143140780487:Unit:=()
def PySem.W.Fast.tw15484648358391888021:Unit:=()
def PySem.W.Fast.tw7976114292929178902:Unit:=()
def PySem.W.Fast.tw13052464739699638294:Unit:=()
def PySem.W.Fast.tw11689336293502450711:Unit:=()
def PySem.W.Fast.tw3691253249855571258:Unit:=()
def PySem.W.Fast.tw6351560930859661426:Unit:=()
def PySem.W.Fast.tw13112303364751745175:Unit:=()
def PySem.W.Fast.tw4348154206974629882:Unit:=()
def PySem.W.Fast.tw17726522083173451761:Unit:=()
set_option maxRecDepth 100000 in
set_option maxHeartbeats 0 in
theorem PySem.Challenge.cw_cranefloor_k06_whole_a_plan_holds : PySem.Challenge.rw_cranefloor_k06_whole_a_plan.Holds := by
 w_on; o_law; k_head; (case hw=>w_witness2)
 k_fill
 refine Z.HQ (k:=11) (l:=PySem.Challenge.rw_cranefloor_k06_whole_a_plan) ⟨rfl,by decide,by decide⟩ rfl rfl (fun w h Y=>PySem.W.kIn_of Y) ?F
 case F=>
  intro w mg fa h KX G MG
  refine' K.all_mk KX G MG ?u9 ?D0 ?D1 ?D2 ?D3 ?D4 ?D5 ?D6 ?D7 ?D8 ?D9 ?Uj ?Uk ?Ul ?Um ?Uo ?Uq ?Ur ?Us ?Ut ?Uu ?Uv ?Uw ?Ux ?Uy ?Uz ?UA ?UB ?UC ?UD ?UE ?UG ?UH ?UI ?UJ ?UK ?UL ?u_ ?va ?vb ?vc ?vd ?ve ?vf ?vg ?vh ?vi ?vj ?hJ ?hV ?gw ?gY ?lE ?kJ ?pU ?lG ?kK ?pV ?nl ?Jx ?yL ?CG ?yM ?Jy ?mH ?Jz ?CH ?JA ?JB ?JC ?vk ?JD ?j7 ?lH ?j8 ?i8 ?j9 ?i9 ?n_ ?lI ?mI ?lJ
  (case u9=>k_is)
  (case D0|D1|D2|D3|D4|D5|D6|D7|D8|D9|Uj|Uk|Ul|Um|Uo|Uq|Ur|Us|Ut|Uu|Uv|Uw|Ux|Uy|Uz|UA|UB|UC|UD|UE|UG|UH|UI|UJ|UK|UL=>exact Z.OI (by k_is) (by k_is) (by k_is) (by k_is))
  (case u_|va|vb|vc|vd=>exact Z.Mc (by k_is) (by k_is) (by k_is) (by k_is) (by k_is))
  (case ve|vf|vg|vh|vi|vj|hJ|hV|gw|gY|lE|kJ|pU=>k_is)
  (case lG|kK|pV=>k_exc)
  (case nl=>kernel_rfl)
  (case Jx|yL|CG|yM|Jy|mH|Jz|CH|JA|JB|JC|vk|JD=>delta Z.pK; k_is)
  (case j7|lH|j8|i8|j9|i9|n_|lI|mI|lJ=>exact Z.int_mk (by k_is) ⟨_,rfl⟩)
