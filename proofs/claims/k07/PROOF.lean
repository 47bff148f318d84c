import PyProof.Rows.All
import Wide.All
import OpenK.AllK
import Wide.FinOn
import Lean
import PyProof.EqAt
import PyProof.EqKinds
import PyProof.TupleCall
import KE.KStateDown
import PyProof.ExcBaseAll.ValueError
import PyProof.ExcClass3
import PyProof.ExcArgsOwn
import OpenK.Peek
import OpenK.KMake
import OpenK.KDescr
import KE.KIsAll
import OpenK.KOwn
import KE.KNest
import PyProof.ListStr
import PyProof.StrBlock
import KE.KSortTup
import PyProof.Rows.SeqMore2
import PyProof.ListMulRoad
import PyProof.TupleOps
import PySem.Challenge.RW_cranefloor_k07_what_is_refused
set_option Elab.async false
set_option linter.all false
set_option maxRecDepth 100000
open Array renaming length_toList→aj,getElem?_toList→bp,getElem?_eq_some_iff→bU,toList_append→cm,getElem?_eq_getElem→cS,forIn_toList→gr,toList_push→je,toList_extract→jJ,toList_inj→mE,toList_reverse→o5,getD_eq_getD_getElem?→vk,mem_of_getElem?→A9
open Bool renaming false_ne_true→aA,false_eq_true→a_,and_eq_true→bx,not_true→eP,false_and→eX,and_true→gE,not_eq_true'→gN,true_and→iz,and_eq_false_iff→jt,and_false→kT,eq_iff_iff→nO,or_eq_true→uE
open Classical renaming byContradiction→w8
open Except renaming ok→t_
open False renaming elim→cE
open ForInStep renaming yield→iE
open Int renaming toNat_natCast→cJ,emod_lt_of_pos→gq,emod_nonneg→iD,le_refl→Cv
open LawfulBEq renaming eq_of_beq→o7
open LawfulMonad renaming pure_bind→ua
open List renaming length_map→ae,getElem?_eq_getElem→ai,length_append→ao,getElem?_map→ax,size_toArray→az,getElem?_eq_some_iff→aD,getD_eq_getElem?_getD→aG,length_cons→aH,mem_singleton→aJ,mem_cons→aK,append_assoc→aM,mem_iff_getElem→aN,getElem_mem→aR,getElem_map→aS,mem_append_right→aT,take_append_drop→aU,mem_of_getElem?→aW,append_nil→aZ,length_take→a8,mem_map→a9,map_cons→bf,map_append→bo,getElem?_eq_none→bq,length_drop→bw,length_set→bA,range→bD,mem_append→bE,pairwise_append→bO,mem_cons_self→bT,pairwise_cons→bW,pairwise_iff_getElem→b8,length_zip→b9,mem_cons_of_mem→cb,length_range→cg,getElem?_cons_succ→cu,flatten_cons→cw,perm_append_comm→cF,forIn_cons→cP,length_nil→c7,mem_append_left→dg,take_length→dh,all_eq_true→di,not_mem_nil→dj,take_of_length_le→dB,getElem_drop→dE,map_map→dF,take_add_one→eD,nodup_cons→eF,drop_of_length_le→eM,getElem?_append_right→eZ,length_singleton→fb,getElem?_append_left→fj,getElem?_set→fx,ext_getElem?→fy,getElem_take→fA,getElem_of_mem→fH,forIn_nil→fV,getElem_zip→fX,mem_range→gS,replicate→gT,take_zero→gU,mem_of_mem_take→gV,lookup_cons→hV,nodup_append→jd,pairwise_map→jh,length_replicate→jq,length→jI,mem_of_mem_drop→jK,take_append_of_le_length→jM,filterMap_cons→kc,drop_zero→kU,drop_eq_getElem_cons→lF,extract_eq_take_drop→lG,lookup→lK,take_sublist→lL,drop_sublist→lN,getElem_inj→mx,cons_append→mD,map_snd_zip→mF,toArray→mY,mem_filter→nK,of_mem_zip→nP,range_succ→nQ,getElem?_toArray→nZ,nodup_nil→oY,flatten_append→pS,reverse_append→pT,zip_cons_cons→qm,getElem?_take→qr,map_nil→qS,drop_append→uc,drop_append_of_le_length→ug,all_append→uF,getElem?_replicate→yX,length_eq_zero_iff→yZ,pairwise_singleton→y7,getElem?_set_self→z5,getElem?_set_ne→Ci,getElem?_append→Cn,getElem?_range→CG,getElem_range→FW,set_cons_succ→FX,filter_append→FY,all_eq_false→Gd,perm_middle→Ic,zipIdx_cons→Ig,mem_flatMap→Ih,prefix_refl→Ii,foldl_cons→IQ
open List.Pairwise renaming sublist→cU,nil→fw
open List.Perm renaming refl→dD,append_left→dQ,trans→j_
open Nat renaming le_refl→ay,ne_of_lt→aE,lt_of_lt_of_le→aX,le_trans→bu,ne_of_gt→bP,zero_le→bQ,lt_succ_of_lt→cv,lt_irrefl→dS,lt_succ_self→fU,lt_of_le_of_lt→iV,add_sub_cancel_left→iZ,le_of_lt→i9,le_of_ble_eq_true→jr,sub_self→kj,eq_zero_or_pos→kY,add_assoc→mi,le_of_eq→mV,not_lt_zero→nR,mul_le_mul→o6,min_le_right→tX,le_of_not_lt→tY,zero_add→Aa,sub_zero→Ab,le_succ→Ck,lt_of_succ_lt→Ge,lt_trichotomy→Gf,min_eq_left→IT
open Ne renaming symm→qN
open Option renaming isSome_iff_exists→yJ
open Option.some renaming inj→aC
open Prod renaming ext_iff→qX
open PyProof.Rows renaming wpS_bind→aB,wpS_pure→aI,SortSt→bZ,pendingOf→b_,seqObj→cL,wpS_forRange→c9,slot_tuple_getitem→dJ,wpS_mono→eJ,get?_update_seq→fm,failedOf→gY,envOfC→iq,listUpdate_at→iA,IntsAre→jb,step_dedup→jA,SortKind→jL,envOfC→j8,callWith_type1→kh,AllBare→lJ,wpS_get→mW,wpS_modify→mX,wpS_lift→qV,boot_isinstance→uD,subscriptTail_builtinR→z9,entry_list_sort→IV
open PyProof.Rows.F renaming plain_set_update_loop→ip
open PySem renaming wpAny_bind→aa,wpAny_pure→af,Shared→ah,Program→aq,starEach→ar,FuncData→aV,wpAny_newObj_type→bb,Around→bh,wpAny_field→bz,wpAny_holding→bG,wpAny_call_entry→bI,mainGlobals→bM,wpAny_mono→bN,wpAny_setField_rec→bV,compareOp→cC,mem_of_lookup→cD,SetTable→cH,wpAny_callSpecial?_slot→cM,swapsWith→cQ,wpAny_setField→cX,bootBuiltins→cZ,Builtin→c6,codeAny_builtin→c8,plainId_quiet→dz,wpAny_seqItems→dA,wpAny_ite_split→dI,DictEntry→dR,backTo→dZ,rawInt→d_,sizeLine_eq→eO,wpAny_isInstance→eS,wpAny_rule→e7,wpAny_truthy_bool→ft,codeAny→fu,wpAny_typeOf→fv,behindInMarks→fE,intKind→fG,wpAny_specialOf→gB,setField→gW,firstArgMember→gX,wpAny_passesOwn→iB,sysModules→iR,pyNext→iS,wpAny_Call_Name_kw→iT,slotAt→iW,unsupported→iY,foldedSetIterable→i_,codeAny_mono→ja,wpAny_pyIter_slot→jf,attributeBase→jC,binaryOp→jG,NameKind→jH,holding→kg,tupleKind→kx,ItemsAre→kW,IsPair→kX,wpAny_loadPart_at→lM,wpAny_attempt→mf,wpAny_forIn_list→mz,wpAny_askSetting→mC,wpAny_execs_nil→nM,letOwnedTupleGo→nN,assign→oX,isSubtype_type→o4,relabel→o8,wpAny_standAt→pU,IsPart→qo,wpAny_pyIter_list→qO,bindArgs→qR,callerA→qT,ofAClassStatement→qU,wpAny_dictEntries→qY,PassesOwn→tU,pyIter→tV,noteFrame→tZ,newExc→t9,Fin→ub,wpAny_typeNameOfWhole_itemiter→ud,wpAny_of_eq→uf,wpAny_typeNameOfWhole_keyiter→uh,wpAny_dictEpoch→uG,BindsTo→vi,getItem→vj,entryOfKey→wI,GenState→wJ,wpAny_call→wL,reduceHash→wO,closureFor→wQ,wpAny_runValue→wR,isSubtype_stop→wU,wpAny_newTuple→wV,wpAny_typeNameOf_itemiter→w_,wpAny_comprehension_free→yL,setSearchFrom→yO,wpAny_handled→yP,wpAny_onRaise→yQ,wpAny_newList→yR,wpAny_typeNameOf_keyiter→yS,setFlight→y6,concat_meets→z7,wpAny_isOneOf_itemiter→Ad,builtinLookup_eq_fast→A_,keywordEach→Cj,hashByValue→Cm,wpAny_throw→Cp,loadIfAlive→Cq,wpAny_updateSeq_pair→Cr,wpAny_letGo→Cs,excClassObj→Cu,wpAny_pyIter_tuple→FV,wpAny_eqBool_int→Ia,noFill_tuple_add→Ib,checkBuiltinCall→Ie,wpAny_updateSeq→IP,typeLookup_type→IU,Within→Lm
open PySem.Around renaming under_plainId→cy,in1_units→jB
open PySem.AutoSeq1 renaming wpAny_loadPart'→cj,sub_tuple_tuple→iw,sub_list_list→z_
open PySem.Builtin.Dict renaming showsAll→n8
open PySem.Builtin.Dict_items renaming ownsTuple→uH
open PySem.Builtin.List renaming listExtendWith→eL,listSameRef→fF,listTooLong→iy,listLengthHint→vo,listTouch→Ac
open PySem.Builtin.Slice renaming slicePlaces→lE,sliceAdjust→wZ
open PySem.Builtin.SmallTypes renaming nextOf→bK,ownedTupleIsFree→cY
open PySem.Builtin.Tuple renaming tupleHashOf→fk,tupleExact→ma,tupleItemsOf→wM
open PySem.Calls renaming call_function_entry→w9
open PySem.Data renaming seq→wN
open PySem.F renaming plain_extend_loop→cz,called_set→e9,plain_list_iadd→fW,slot_dict_keyiterator_next→iX,slot_tuple_iterator_next→jg,plainAttrs_list→mB,slot_zip_next→nS,slot_dict_itemiterator_next→pW,slot_tuple_hash→qW,entry_proto_collect→vm,plain_proto_collect→vn,excBase_ValueError→wW,args_tuple_add_2→yK,entry_tuple_add→yY,entry_list_iadd→y4,slot_tuple_add→z8,slot_tuple_lt→A8
open PySem.Heap renaming get?_push_of_some→ag,lt_size→au,get?_push_size→aw,SameBut→bH,get?_update_other→cf,size_push→cB,get?_update_self→cT,get?_none_of_le→oW,ExtBut→Co
open PySem.Heap.SameBut renaming update→bB,refl→dC
open PySem.IsTupleKey renaming inj→oZ
open PySem.NameKind renaming free→yM
open PySem.Obj renaming mapSeq→df,mapFields→dW,data_mapFields→gu,isFreed_of_fields→ju
open PySem.PassesOwn renaming never→cp
open PySem.PyData renaming eqvAll→dw,depthAll→dH,canLayAll0→eB,eqv→iU,canLay0→jc,depth→ki
open PySem.SetTable renaming insertAt→bS,below→cO,Probe→cW,slot→yN,runEnd→IS
open PySem.SetTable.Met renaming empty→qp
open PySem.SetTable.probe renaming go→fz
open PySem.Shared renaming TypeIs→gF,heap→Ct
open PySem.Str renaming ofString→hJ
open PySem.Value renaming ref→ak,none→aY,type→cq,bool→fD,int→gD,isInt_shape→lI,builtin→mh,str→yW
open PySem.W renaming Frag→aL,kitOne→aQ,findIn→bj,nsIn→cR,fnOf→c5,mroIn→dU,mg_of→dX,emptyDict→eA,excIn→eQ,keepIn→eY,instObj→gA,kia_one→iC,kia_tup→j9,codeIn→kS,plainGet→my,clsIn→pV,callWith_K→ql,hasDictIn→qP,isFn→qQ,lookIn→wK,cellsFrom_some→z6,plainGet_of→CF,methodObj→Ga,plainOver→Gb,takerIn→IK,makesIn→IL,OpenLaw→IM
open Sum renaming inl→vg,inr→vh
open True renaming intro→cN
namespace L2
open PySem PySem.Spec PyProof.Rows
abbrev Key:=Sum Int Str
def Im:Key->Value->Bool
 | .inl k,v=>Value.isInt k v
 | .inr x,v=>Value.isStrOf x v
def LX(w:World):Key->Int
 | .inl k=>hashInt k
 | .inr x=>hashStr w x
theorem fe: ∀{k:Key} {v:Value},Im k v=true->(∃i t,k=vg i/\v=gD i t)\/(∃x t,k=vh x/\v=yW x t)
 | .inl i,v,h=>by
  obtain⟨t,e⟩:=lI (k:=i) (v:=v) h
  exact .inl ⟨i,t,rfl,e⟩
 | .inr x,v,h=>by
  obtain⟨t,e⟩:=Value.isStrOf_shape (x:=x) (v:=v) h
  exact .inr ⟨x,t,rfl,e⟩
theorem JI(a b:Int):decide ((vg a:Key)=vg b)=(a==b):=by
 by_cases e:a=b
 ·subst e; simp
 ·have h: ¬(vg a:Key)=vg b:=fun q=>e (Sum.inl.inj q)
  rw [decide_eq_false h]
  exact(beq_eq_false_iff_ne.mpr e).symm
theorem I9(a b:Str):decide ((vh a:Key)=vh b)=decide (a=b):=by
 by_cases e:a=b
 ·subst e; simp
 ·have h: ¬(vh a:Key)=vh b:=fun q=>e (Sum.inr.inj q)
  rw [decide_eq_false h,decide_eq_false e]
theorem Jd(a:Int)(b:Str):decide ((vg a:Key)=vh b)=false:=decide_eq_false (fun q=>nomatch q)
theorem IY(a:Str)(b:Int):decide ((vh a:Key)=vg b)=false:=decide_eq_false (fun q=>nomatch q)
def Ap(prog:aq)(w:World):PySem.KeyKind prog w Key where
 is:=Im
 hash:=LX w
 inj:=fun v a b ha hb=>by
  rcases fe ha with⟨i,t,rfl,rfl⟩ | ⟨x,t,rfl,rfl⟩
  ·rcases fe hb with⟨j,u,rfl,e⟩ | ⟨y,u,rfl,e⟩
   ·injection e with e1 _; rw [e1]
   ·exact nomatch e
  ·rcases fe hb with⟨j,u,rfl,e⟩ | ⟨y,u,rfl,e⟩
   ·exact nomatch e
   ·injection e with e1 _; rw [e1]
 byValue:=fun k v h=>by
  rcases fe h with⟨i,t,rfl,rfl⟩ | ⟨x,t,rfl,rfl⟩ <;> rfl
 pyHash:=fun hv h=>by
  rcases fe hv with⟨i,t,rfl,rfl⟩ | ⟨x,t,rfl,rfl⟩
  ·exact wpAny_pyHash_int h
  ·exact wpAny_pyHash_str h
 eqBool:=fun hu hv h=>by
  rcases fe hu with⟨i,t,rfl,rfl⟩ | ⟨x,t,rfl,rfl⟩
  ·rcases fe hv with⟨j,u,rfl,rfl⟩ | ⟨y,u,rfl,rfl⟩
   ·rw [JI]at h; exact Ia h
   ·rw [Jd]at h; exact SeqAt.EqAt.int_str i t y u _ _ _ _ h
  ·rcases fe hv with⟨j,u,rfl,rfl⟩ | ⟨y,u,rfl,rfl⟩
   ·rw [IY]at h; exact SeqAt.EqAt.str_int x t j u _ _ _ _ h
   ·rw [I9]at h; exact wpAny_eqBool_str h
 «strs» :=fun k x t v h=>by
  rcases fe h with⟨i,u,rfl,e⟩ | ⟨y,u,rfl,e⟩
  ·exact nomatch e
  ·injection e with e1 _
   subst e1
   cases v <;> rfl
end L2
namespace L2
open PySem PySem.Spec PyProof.Rows
inductive V where
 | non | bl (b:Bool) | int (i:Int) | str (x:Str) | byt (b:Array UInt8) | flt (b:UInt64) | ref (a:Addr) | ty (n:String)
 deriving DecidableEq
def RelV:V->Value->Prop
 | .non,u=>u=aY
 | .bl b,u=>u=fD b
 | .int i,u=> ∃t,u=gD i t
 | .str x,u=> ∃t,u=yW x t
 | .byt b,u=> ∃t,u=Value.bytes b t
 | .flt b,u=> ∃t,u=Value.float b t
 | .ref a,u=>u=ak a
 | .ty n,u=>u=cq n
abbrev Vals:List V->List Value->Prop:=Paired RelV
theorem Vals.length{xs:List V}{us:List Value}(r:Vals xs us):xs.length=us.length:=Paired.length r
theorem Vals.get: ∀{xs:List V} {us:List Value} {i:Nat} {x:V},Vals xs us->xs[i]? =some x-> ∃u,us[i]? =some u/\RelV x u
 | _,_,_,_, .nil,e=>by simp at e
 | _,_,0,_, .cons r _,e=>by simp at e; subst e; exact⟨_,rfl,r⟩
 | _,_,i+1,x, .cons _ t,e=>by
  obtain⟨u,h1,h2⟩:=Vals.get (i:=i) (x:=x) t (by simpa using e)
  exact⟨u,by simpa using h1,h2⟩
theorem Vals.set{x:V}{u:Value}(r:RelV x u): ∀{xs:List V} {us:List Value} (i:Nat),Vals xs us->Vals (xs.set i x) (us.set i u)
 | _,_,_, .nil=> .nil
 | _,_,0, .cons _ t=> .cons r t
 | _,_,i+1, .cons q t=> .cons q (Vals.set r i t)
theorem Vals.append: ∀{xs ys:List V} {us ws:List Value},Vals xs us->Vals ys ws->Vals (xs ++ ys) (us ++ ws)
 | _,_,_,_, .nil,s=>s
 | _,_,_,_, .cons r t,s=> .cons r (Vals.append t s)
theorem Vals.take: ∀{xs:List V} {us:List Value} (n:Nat),Vals xs us->Vals (xs.take n) (us.take n)
 | _,_,0,_=> .nil
 | _,_,_+1, .nil=> .nil
 | _,_,n+1, .cons r t=> .cons r (Vals.take n t)
theorem Vals.drop: ∀{xs:List V} {us:List Value} (n:Nat),Vals xs us->Vals (xs.drop n) (us.drop n)
 | _,_,0,r=>r
 | _,_,_+1, .nil=> .nil
 | _,_,n+1, .cons _ t=>Vals.drop n t
def uz:Option V->Option Value->Prop
 | some v,some u=>RelV v u
 | none,none=>True
 | _,_=>False
def KV{κ:Type}:List (κ×V)->List (κ×Value)->Prop:=Paired fun(p:κ×V) (q:κ×Value)=>p.1=q.1/\RelV p.2 q.2
def kV:Key->V
 | .inl i=> .int i
 | .inr x=> .str x
inductive HO where
 | lst (xs:List V)
 | tup (xs:List V)
 | dK (kvs:List (Key×V)) | dT (kvs:List (List Key×V))
 | set (S:Int->Bool) (n:Nat)
 | ins (C dx:Addr) (fs:List (Str×V))
 | own (x:Addr)
 | xd (fs:List (Str×V))
 | met (f x:Addr)
 | rng (lo hi:Int)
 | frz (o:Obj) (u:HO)
 | tbl (ps:Array Value)
 | ext (φ:Heap->Prop)
abbrev Hp:=Addr->Option HO
def upd(H:Hp)(a:Addr)(o:HO):Hp:=fun b=>if b=a then some o else H b
theorem bC{H:Hp}{a:Addr}{o:HO}:upd H a o a=some o:=by unfold upd; rw [if_pos rfl]
theorem ck{H:Hp}{a b:Addr}{o:HO}(h:b≠a):upd H a o b=H b:=by unfold upd; rw [if_neg h]
theorem fI{H:Hp}{a b:Addr}{o:HO}(h:H a=some o)(h':H b=none):a≠b:=by
 intro e; subst e; rw [h]at h'; cases h'
section
variable (P:aq)(w:World)
def fC(H:Hp)(h:Heap)(a:Addr):HO->Prop
 | .lst xs=>xs.length<=sizeLine/\ ∃(its:List Value) (n:Nat),Vals xs its/\h.get? a=some {cls:= .type "list",data:= .seq its.toArray n}
 | .tup xs=>xs.length<=sizeLine/\ ∃its:List Value,Vals xs its/\IsTup h a its.toArray
 | .dK kvs=>kvs.length<=sizeLine/\(a==iR)=false/\ ∃vs,KV kvs vs/\h.DictOf (Ap P w) a vs
 | .dT kvs=>kvs.length<=sizeLine/\(a==iR)=false/\ ∃xs:List (List Key×Addr×Value),
   Paired (fun(p:List Key×V) (q:List Key×Addr×Value)=>p.1=q.1/\H q.2.1=some (.tup (p.1.map kV))/\RelV p.2 q.2.2) kvs xs/\
   ∃o es ep,h.get? a=some o/\o.ExactDict/\o.data= .dict es ep/\es.toList=xs.map (wI (kx (Ap P w)))/\(xs.map (·.1)).Nodup
 | .set S n=>h.SetOf (fG P w) a S n
 | .ins C dx fs=>H dx=some (.own a)/\fs.length<=1000/\dx≠a/\h.get? a=some (gA C dx)/\
   ∃mA,h.Ns1 dx mA/\(∀f,uz (fs.lookup f) (mA f))/\Lm mA (fs.map (·.1))
 | .own _=> ∃o,h.get? a=some o
 | .xd fs=> ∃mA,h.Ns1 a mA/\ ∀f,uz (fs.lookup f) (mA f)
 | .rng lo hi=> ∃t u v,h.get? a=some {cls:= .type "range",data:= .fields #[.int lo t, .int hi u, .int 1 v]}
 | .frz o u=>h.get? a=some o/\fC H h a u
 | .tbl ps=>h.get? a=some {cls:= .none,data:= .fields ps}
 | .met f x=>h.get? a=some (Ga (.ref f) (.ref x))
 | .ext φ=>φ h/\(∃o,h.get? a=some o)/\ ∀h1 h2:Heap,φ h1->(∀o,h1.get? a=some o->h2.get? a=some o)->φ h2
def n_(H:Hp)(h:Heap):Prop:= ∀a o,H a=some o->fC P w H h a o
end
section
variable {P:aq}{w:World}{H H':Hp}{h h':Heap}{a:Addr}{o:HO}
theorem fC.lt(x:fC P w H h a o):a < h.objs.size:=by
 cases o with
 | lst xs=>obtain⟨_,_,_,_,e⟩:=x; exact au e
 | tup xs=>obtain⟨_,_,_,p⟩:=x; exact p.lt
 | dK kvs=>obtain⟨_,_,_,_,o,_,_,e,_⟩:=x; exact au e
 | dT kvs=>obtain⟨_,_,_,_,o,_,_,e,_⟩:=x; exact au e
 | set S n=>obtain⟨o,_,_,_,e,_⟩:=x; exact au e
 | ins C dx fs=>obtain⟨_,_,_,e,_⟩:=x; exact au e
 | own y=>obtain⟨_,e⟩:=x; exact au e
 | xd fs=>obtain⟨_,⟨_,_,_,e,_⟩,_⟩:=x; exact au e
 | rng lo hi=>obtain⟨_,_,_,e⟩:=x; exact au e
 | frz ob u=>obtain⟨e,_⟩:=x; exact au e
 | tbl ps=>exact au (show h.get? a=some _ from x)
 | met f y=>exact au (show h.get? a=some _ from x)
 | ext φ=>obtain⟨_,⟨_,e⟩,_⟩:=x; exact au e
theorem Paired.mapP{α β:Type}{F G:α->β->Prop}: ∀{l₁:List α} {l₂:List β},Paired F l₁ l₂->(∀a b,F a b->G a b)->Paired G l₁ l₂
 | _,_, .nil,_=> .nil
 | _,_, .cons r t,f=> .cons (f _ _ r) (Paired.mapP t f)
theorem fC.stay(x:fC P w H h a o)(k: ∀b u,(b=a\/H b=some (.own a))->h.get? b=some u->h'.get? b=some u)
  (ho: ∀b,H b=some (.own a)->H' b=some (.own a))(ht: ∀b xs,H b=some (.tup xs)->H' b=some (.tup xs)):fC P w H' h' a o:=by
 induction o with
 | lst xs=>obtain⟨z,its,n,r,e⟩:=x; exact⟨z,its,n,r,k _ _ (.inl rfl) e⟩
 | tup xs=>obtain⟨z,its,r,ob,e,c⟩:=x; exact⟨z,its,r,ob,k _ _ (.inl rfl) e,c⟩
 | dK kvs=>obtain⟨z,y,vs,r,ob,es,ep,e,c⟩:=x; exact⟨z,y,vs,r,ob,es,ep,k _ _ (.inl rfl) e,c⟩
 | dT kvs=>
  obtain⟨z,y,xs,r,ob,es,ep,e,c⟩:=x
  exact⟨z,y,xs,Paired.mapP r fun p q z=>⟨z.1,ht _ _ z.2.1,z.2.2⟩,ob,es,ep,k _ _ (.inl rfl) e,c⟩
 | set S n=>obtain⟨ob,es,ep,t,e,c⟩:=x; exact⟨ob,es,ep,t,k _ _ (.inl rfl) e,c⟩
 | ins C dx fs=>
  obtain⟨d,z,ne,e,mA,⟨od,es,ep,e2,c⟩,r⟩:=x
  exact⟨ho _ d,z,ne,k _ _ (.inl rfl) e,mA,⟨od,es,ep,k _ _ (.inr d) e2,c⟩,r⟩
 | own y=>obtain⟨ob,e⟩:=x; exact⟨ob,k _ _ (.inl rfl) e⟩
 | xd fs=>obtain⟨mA,⟨od,es,ep,e,c⟩,r⟩:=x; exact⟨mA,⟨od,es,ep,k _ _ (.inl rfl) e,c⟩,r⟩
 | rng lo hi=>obtain⟨t,u,v,e⟩:=x; exact⟨t,u,v,k _ _ (.inl rfl) e⟩
 | frz ob u ih=>obtain⟨e,q⟩:=x; exact⟨k _ _ (.inl rfl) e,ih q⟩
 | tbl ps=>
  have e:h.get? a=some {cls:= .none,data:= .fields ps}:=x
  show h'.get? a=some {cls:= .none,data:= .fields ps}
  exact k a _ (.inl rfl) e
 | met f y=>
  have e:h.get? a=some (Ga (.ref f) (.ref y)):=x
  show h'.get? a=some (Ga (.ref f) (.ref y))
  exact k a _ (.inl rfl) e
 | ext φ=>obtain⟨p,⟨o,e⟩,st⟩:=x; exact⟨st _ _ p fun o q=>k _ _ (.inl rfl) q,⟨o,k _ _ (.inl rfl) e⟩,st⟩
theorem n_.lt(x:n_ P w H h)(e:H a=some o):a < h.objs.size:=(x a o e).lt
theorem n_.fresh(x:n_ P w H h)(e:h.objs.size<=a):H a=none:=by
 cases q:H a with
 | none=>rfl
 | some u=>exact absurd (aX (x.lt q) e) (dS _)
theorem n_.kept(x:n_ P w H h)(k: ∀b u,h.get? b=some u->h'.get? b=some u):n_ P w H h':=fun a o e=>
 (x a o e).stay (fun b u _ q=>k b u q) (fun _ q=>q) fun _ _ q=>q
theorem n_.laid(x:n_ P w H h)(k: ∀b u,h.get? b=some u->h'.get? b=some u)(hp:h.objs.size<=a)(new:fC P w (upd H a o) h' a o):n_ P w (upd H a o) h':=fun b u e=>by
 have hn:=x.fresh hp
 by_cases hb:b=a
 ·subst hb; rw [bC]at e; cases e; exact new
 ·rw [ck hb]at e
  exact(x b u e).stay (fun c v _ q=>k c v q) (fun c q=>by rw [ck (fI q hn)]; exact q) fun c xs q=>by rw [ck (fI q hn)]; exact q
end
def Rd(H:Hp)(a:Addr)(u:HO):Prop:=H a=some u\/ ∃o,H a=some (.frz o u)
theorem Rd.ok{P:aq}{w:World}{H:Hp}{h:Heap}{a:Addr}{u:HO}(r:Rd H a u)(x:n_ P w H h):fC P w H h a u:=by
 rcases r with r | ⟨o,r⟩
 ·exact x a u r
 ·obtain⟨_,q⟩:=x a _ r
  exact q
def Lq:Option HO->Prop
 | some (.lst _)=>True
 | some (.dK _)=>True
 | some (.dT _)=>True
 | some (.set _ _)=>True
 | some (.ins _ _ _)=>True
 | some (.ext _)=>True
 | _=>False
section
variable {P:aq}{w:World}{H:Hp}{h h':Heap}{x e:Addr}{o':HO}
theorem n_.write(ok:n_ P w H h)(mu:Lq (H x))(he:e=x\/H e=some (.own x))(k: ∀b u,b≠e->h.get? b=some u->h'.get? b=some u)(heo: ∃u,h'.get? e=some u)
  (new:fC P w (upd H x o') h' x o'):n_ P w (upd H x o') h':=fun b u q=>by
 have nown: ∀c y,H c=some (.own y)->c≠x:=fun c y r z=>by subst z; rw [r]at mu; exact mu
 have ntup: ∀c xs,H c=some (.tup xs)->c≠x:=fun c xs r z=>by subst z; rw [r]at mu; exact mu
 by_cases hb:b=x
 ·subst hb; rw [bC]at q; cases q; exact new
 ·rw [ck hb]at q
  by_cases hbe:b=e
  ·have q':H b=some (.own x):=by
    rcases he with z | z
    ·exact absurd (hbe.trans z) hb
    ·rw [hbe]; exact z
   rw [q]at q'; cases q'
   obtain⟨v,hv⟩:=heo
   exact⟨v,by rw [hbe]; exact hv⟩
  ·refine(ok b u q).stay (fun c v hc r=>k c v ?_ r) (fun c r=>by rw [ck (nown c b r)]; exact r) fun c xs r=>by rw [ck (ntup c xs r)]; exact r
   rcases hc with rfl | hc
   ·exact hbe
   ·rintro rfl
    rcases he with z | z
    ·exact nown c b hc z
    ·rw [hc]at z; cases z; exact hb rfl
end
structure Un(fs ex:List Addr)(H H':Hp)(h h':Heap):Prop where
 keep: ∀b o,h.get? b=some o->H b=none->b∉fs->b∉ex->h'.get? b=some o
 slot: ∀b o,h.get? b=some o->H b=none->b∈fs->b∉ex-> ∃sl,h'.get? b=some {o with slots:=sl}
 free: ∀b o,h.get? b=some o->H b=none->b∉ex->H' b=none
 there: ∀b o,h.get? b=some o->b∉ex-> ∃o',h'.get? b=some o'
 sQ: ∀b xs,H b=some (.tup xs)->H' b=some (.tup xs)
 qD: ∀b o u,H b=some (.frz o u)->H' b=some (.frz o u)
 rE: ∀b ps,H b=some (.tbl ps)-> ∃more,H' b=some (.tbl (ps ++ more))
section
variable {fs fs' ex ex':List Addr}{H H1 H2:Hp}{h h1 h2 h':Heap}{a x e:Addr}{o:HO}
theorem Un.any(u:Un fs ex H H1 h h1){b:Addr}{ob:Obj}(q:h.get? b=some ob)(n:H b=none)(hx:b∉ex): ∃sl,h1.get? b=some {ob with slots:=sl}:=by
 by_cases hb:b∈fs
 ·exact u.slot b ob q n hb hx
 ·exact⟨ob.slots,u.keep b ob q n hb hx⟩
theorem Un.kept(k: ∀b u,h.get? b=some u->h'.get? b=some u):Un fs ex H H h h':=
 ⟨fun b ob q _ _ _=>k b ob q,fun b ob q _ _ _=>⟨ob.slots,k b ob q⟩,fun _ _ _ n _=>n,fun b ob q _=>⟨ob,k b ob q⟩,fun _ _ q=>q,fun _ _ _ q=>q,fun _ ps q=>⟨#[],by rw [q]; simp⟩⟩
theorem Un.refl:Un fs ex H H h h:=Un.kept fun _ _ q=>q
theorem Un.laid(k: ∀b u,h.get? b=some u->h'.get? b=some u)(hp:h.objs.size<=a)(hn:H a=none):Un fs ex H (upd H a o) h h' where
 keep:=fun b u q _ _ _=>k b u q
 slot:=fun b u q _ _ _=>⟨u.slots,k b u q⟩
 free:=fun b u q n _=>by rw [ck (aE (aX (au q) hp))]; exact n
 there:=fun b u q _=>⟨u,k b u q⟩
 sQ:=fun b xs q=>by rw [ck (fI q hn)]; exact q
 qD:=fun b u xs q=>by rw [ck (fI q hn)]; exact q
 rE:=fun b ps q=>⟨#[],by rw [ck (fI q hn),q]; simp⟩
theorem Un.write(mu:Lq (H x))(he:e=x\/H e=some (.own x))(k: ∀b u,b≠e->h.get? b=some u->h'.get? b=some u)(heo: ∃u,h'.get? e=some u):Un fs ex H (upd H x o) h h':=by
 have hx: ∀b,H b=none->b≠x:=fun b n z=>by subst z; rw [n]at mu; exact mu
 have hb: ∀b,H b=none->b≠e:=fun b n z=>by
  subst z
  rcases he with r | r
  ·exact hx b n r
  ·rw [n]at r; cases r
 have hm: ∀b u,H b=some u-> ¬Lq (some u)->b≠x:=fun b u q nm z=>by subst z; rw [q]at mu; exact nm mu
 refine⟨fun b u q n _ _=>k b u (hb b n) q,fun b u q n _ _=>⟨u.slots,k b u (hb b n) q⟩,fun b u q n _=>by rw [ck (hx b n)]; exact n,fun b u q _=> ?_,
  fun b xs q=>by rw [ck (hm b _ q fun z=>z)]; exact q,fun b u xs q=>by rw [ck (hm b _ q fun z=>z)]; exact q,fun b ps q=>⟨#[],by rw [ck (hm b _ q fun z=>z),q]; simp⟩⟩
 by_cases hbe:b=e
 ·subst hbe; exact heo
 ·exact⟨u,k b u hbe q⟩
end
def Ly(h:Heap)(H:Hp):List Addr:=(bD h.objs.size).filter fun a=>(H a).isSome
def vX(h:Heap)(H:Hp):Heap:=PySem.W.hideAll h (Ly h H)
theorem BO(h:Heap)(H:Hp):(vX h H).objs.size=h.objs.size:=PySem.W.hideAll_size _ _
theorem Ft{h:Heap}{H:Hp}{b:Addr}{o:Obj}(e:h.get? b=some o)(n:H b=none):(vX h H).get? b=some o:=
 PySem.W.hideAll_get _ e fun hm=>by
  have q:(H b).isSome=true:=(nK.mp hm).2
  rw [n]at q; simp at q
theorem GJ{h:Heap}{H:Hp}{b:Addr}{o:Obj}(e:(vX h H).get? b=some o):h.get? b=some o/\H b=none:=by
 have e':h.get? b=some o:=PySem.W.of_hideAll (Ly h H) e
 refine⟨e', ?_⟩
 cases q:H b with
 | none=>rfl
 | some x=>
  have hm:b∈Ly h H:=nK.mpr ⟨gS.mpr (au e'),by simp [q]⟩
  have z:(vX h H).get? b=none:=PySem.W.hideAll_none (Ly h H) hm
  rw [z]at e; cases e
def GH(g h:Heap)(L:Addr):List (Addr×Obj):=(bD h.objs.size).filterMap fun a=>if a=L\/(g.get? a).isSome=true then none else(h.get? a).map fun o=>(a,o)
def rest(g h:Heap)(L d:Addr):List (Addr×Obj):=(GH g h L).filter fun p=>decide (p.1≠d)
end L2
namespace L2
open PySem PySem.Spec PyProof.Rows
structure Mod(K:aL)(mg:Str->Option Value)(base:Heap):Prop where
 vc:K.In base
 glob:base.Ns bM mg
 blt: ∃mb,base.Ns builtinsNs mb/\ ∀x:Str,x≠"__name__"->mb x=cZ x
 nolimit:base.NoLimit
structure Cx where
 prog:aq
 w:World
 K:aL
 mg:Str->Option Value
 base:Heap
 A:bh
 N:List Str
 s₀:ah
 H₀:Hp
 env:Env
 outer:List Env
 stack:List Env
 ex:List Addr
 fn:Str->Bool
 calm:Bool
 pn:List (Addr×Obj)
 xe:Value->ah->Prop
def sT(l:List Env):List Addr:=l.filterMap (·.frame)
abbrev Cx.fs(X:Cx):List Addr:=sT X.outer
def yy(sc:Scope)(x:Str):Prop:=sc.names.lookup x=some .local\/sc.names.lookup x=some .cell\/sc.names.lookup x=some .free
def Loc(sc:Scope)(x:Str):Prop:=sc.names.lookup x=some .local\/sc.names.lookup x=some .cell
def Look(env:Env)(h:Heap)(m:Str->Option Value)(x:Str)(u:Value):Prop:=
 (env.kindOf x=some .local/\m x=some u)\/((env.kindOf x=some .cell\/env.kindOf x=some .free)/\ ∃c,env.cells.lookup x=some c/\h.IsCell c (some u))
structure Cx.Ok(X:Cx):Prop where
 mod:Mod X.K X.mg X.base
 kind:X.env.scope.kind= .function
 glob:X.env.globals=bM
 blt:X.env.builtins=builtinsNs
 above:X.s₀.heap.objs.size<=X.env.locals
 inj: ∀x y c,X.env.cells.lookup x=some c->X.env.cells.lookup y=some c->x=y
 has: ∀x,(X.env.kindOf x=some .cell\/X.env.kindOf x=some .free)-> ∃c,X.env.cells.lookup x=some c
 CD: ∀x c,X.fn x=true->X.env.cells.lookup x=some c->X.s₀.heap.objs.size<=c
 hd:X.calm=true->X.A.handled=none
 frames:X.A.frames=some X.stack
 qM:X.stack=X.outer\/(X.stack=X.env::X.outer/\X.env.frame=some X.env.locals)
 GN: ∀b∈X.ex,b≠X.env.locals/\ ∀x c,X.env.cells.lookup x=some c->c≠b
 bs: ∀b o,X.base.get? b=some o->X.s₀.heap.get? b=some o/\X.H₀ b=none
 wX:X.base.objs.size<=X.s₀.heap.objs.size
 pZ: ∀b o,X.base.get? b=some o->b∉X.ex
 rD: ∀b∈X.ex,b∉X.fs
 ll:X.s₀.heap.FunFrames X.base X.outer
 zg: ∀b∈X.fs,X.H₀ b=none
structure Inv(X:Cx)(pins:List (Addr×Obj))(σ:List (Option V))(H:Hp)(s:ah):Prop where
 ok:X.Ok
 os:s.os=X.s₀.os
 bare:lJ s.gens
 base:Un X.fs X.ex X.H₀ H X.s₀.heap s.heap
 loc: ∃m,s.heap.Ns X.env.locals m/\ ∀(i:Nat) (x:Str) (v:V),X.N[i]? =some x->σ[i]? =some (some v)->yy X.env.scope x-> ∃u,RelV v u/\Look X.env s.heap m x u
 cell: ∀x c,X.env.cells.lookup x=some c-> ∃v,s.heap.IsCell c v
 free:H X.env.locals=none
 iJ: ∀x c,X.env.cells.lookup x=some c->H c=none
 pin: ∀p∈X.pn ++ pins,s.heap.get? p.1=some p.2/\H p.1=none/\p.1≠X.env.locals/\p.1∉X.fs/\ ∀v,p.2.data≠ .cell v
 dO:n_ X.prog X.w H s.heap
 len:σ.length=X.N.length
section
variable {X:Cx}{pins:List (Addr×Obj)}{σ:List (Option V)}{H H':Hp}{s:ah}{h':Heap}
theorem Cx.Ok.nofr(ok:X.Ok){b:Addr}{o:Obj}(e:X.base.get? b=some o):b∉X.fs:=fun hb=>by
 have:=(ok.ll.mem hb).1
 rw [e]at this; cases this
theorem Inv.bs(I:Inv X pins σ H s): ∀b o,X.base.get? b=some o->s.heap.get? b=some o/\H b=none:=fun b o e=>
 ⟨I.base.keep b o (I.ok.bs b o e).1 (I.ok.bs b o e).2 (I.ok.nofr e) (I.ok.pZ b o e),I.base.free b o (I.ok.bs b o e).1 (I.ok.bs b o e).2 (I.ok.pZ b o e)⟩
theorem Inv.bk(I:Inv X pins σ H s): ∀b o,X.base.get? b=some o->s.heap.get? b=some o:=fun b o e=>(I.bs b o e).1
theorem Inv.mod(I:Inv X pins σ H s):Mod X.K X.mg X.base:=I.ok.mod
theorem Inv.kIn(I:Inv X pins σ H s):X.K.In s.heap:=I.ok.mod.vc.keeps I.bk
theorem Inv.lt(I:Inv X pins σ H s):X.env.locals < s.heap.objs.size:=let⟨_,hn,_⟩:=I.loc; hn.lt
theorem Inv.sz(I:Inv X pins σ H s):X.s₀.heap.objs.size<=s.heap.objs.size:=bu I.ok.above (i9 I.lt)
theorem Inv.nofs(I:Inv X pins σ H s){a:Addr}(h:s.heap.objs.size<=a):a∉X.fs:=fun hb=>by
 obtain⟨_,o,ho,_⟩:=I.ok.ll.mem hb
 exact absurd (aX (au ho) (bu I.sz h)) (dS _)
theorem Inv.cne(I:Inv X pins σ H s): ∀x c,X.env.cells.lookup x=some c->c≠X.env.locals:=fun x c e z=>by
 obtain⟨v,o,ho,hd⟩:=I.cell x c e
 obtain⟨m,⟨o',es,ep,ho',hd',_⟩,_⟩:=I.loc
 rw [z,ho']at ho; cases ho; rw [hd']at hd; cases hd
theorem Inv.ll(I:Inv X pins σ H s):s.heap.FunFrames X.base X.outer:=by
 have all: ∀(l:List Env),(∀b∈sT l,b∈X.fs)->X.s₀.heap.FunFrames X.base l->s.heap.FunFrames X.base l:=by
  intro l
  induction l with
  | nil=>intro _ _; trivial
  | cons env r ih=>
   intro hs hl
   obtain⟨hk,⟨L,o,hf,hn,ho,hd⟩,hr⟩:=hl
   have hL:L∈X.fs:=hs L (by unfold sT; rw [kc,hf]; exact bT)
   obtain⟨sl,e⟩:=I.base.slot L o ho (I.ok.zg L hL) hL fun z=>I.ok.rD L z hL
   exact⟨hk,⟨L,_,hf,hn,e,hd⟩,ih (fun b hb=>hs b (by unfold sT; rw [kc,hf]; exact cb _ hb)) hr⟩
 exact all X.outer (fun _ hb=>hb) I.ok.ll
theorem Inv.stack(I:Inv X pins σ H s):s.heap.FunFrames X.base X.stack:=by
 rcases I.ok.qM with e | ⟨e,hf⟩
 ·rw [e]; exact I.ll
 ·rw [e]
  obtain⟨m,hn,_⟩:=I.loc
  refine .cons (by rw [I.ok.kind]; decide) hf hn ?_ I.ll
  exact oW (bu I.ok.wX I.ok.above)
theorem Inv.stkSub(I:Inv X pins σ H s): ∀b∈sT X.stack,b∈X.env.locals::X.fs:=fun b hb=>by
 rcases I.ok.qM with e | ⟨e,hf⟩
 ·rw [e]at hb; exact cb _ hb
 ·rw [e]at hb
  unfold sT at hb
  rw [kc,hf]at hb
  exact hb
theorem Inv.stkFree(I:Inv X pins σ H s): ∀b∈sT X.stack,H b=none:=fun b hb=>by
 rcases aK.mp (I.stkSub b hb)with e | hb
 ·rw [e]; exact I.free
 ·obtain⟨_,o,ho,_⟩:=I.ok.ll.mem hb
  exact I.base.free b o ho (I.ok.zg b hb) fun z=>I.ok.rD b z hb
theorem Inv.step{g':Array wJ}{t':Nat}{d':Drawn}{ch:List Addr}(I:Inv X pins σ H s)
  (hch: ∀b∈ch,(b∈X.ex\/X.s₀.heap.objs.size<=b)/\b≠X.env.locals/\(∀x c,X.env.cells.lookup x=some c->c≠b)/\ ∀p∈X.pn ++ pins,p.1≠b)
  (keep: ∀b o,b≠X.env.locals->b∉X.fs->b∉ch->s.heap.get? b=some o->H b=none->h'.get? b=some o)
  (slot: ∀b o,b≠X.env.locals->b∈X.fs->b∉ch->s.heap.get? b=some o->H b=none-> ∃sl,h'.get? b=some {o with slots:=sl})(free: ∀b o,b∉ch->s.heap.get? b=some o->H b=none->H' b=none)
  (there: ∀b o,b∉ch->s.heap.get? b=some o-> ∃o',h'.get? b=some o')
  (sQ: ∀b xs,H b=some (.tup xs)->H' b=some (.tup xs))(qD: ∀b o u,H b=some (.frz o u)->H' b=some (.frz o u))(rE: ∀b ps,H b=some (.tbl ps)-> ∃more,H' b=some (.tbl (ps ++ more)))
  (ns: ∀m,s.heap.Ns X.env.locals m->h'.Ns X.env.locals m)(dO:n_ X.prog X.w H' h')(hg:lJ g'):
  Inv X pins σ H' {s with heap:=h',gens:=g',drawn:=d',toks:=t'}:=by
 have neL: ∀b o,X.s₀.heap.get? b=some o->b≠X.env.locals:=fun b o e=>aE (aX (au e) I.ok.above)
 have neC: ∀b o,X.s₀.heap.get? b=some o->b∉X.ex->b∉ch:=fun b o e hx hb=>by
  rcases(hch b hb).1 with z | z
  ·exact hx z
  ·exact absurd (aX (au e) z) (dS _)
 have cellK: ∀x c,X.env.cells.lookup x=some c-> ∀v,s.heap.IsCell c v->h'.IsCell c v:=fun x c e v ⟨o,ho,hd⟩=>by
  have nch:c∉ch:=fun z=>(hch c z).2.2.1 x c e rfl
  by_cases hc:c∈X.fs
  ·obtain⟨sl,q⟩:=slot c o (I.cne x c e) hc nch ho (I.iJ x c e)
   exact⟨_,q,hd⟩
  ·exact⟨o,keep c o (I.cne x c e) hc nch ho (I.iJ x c e),hd⟩
 refine⟨I.ok,I.os,hg,⟨fun b o e n hb hx=> ?_,fun b o e n hb hx=> ?_,fun b o e n hx=> ?_,fun b o e hx=> ?_,fun b xs e=>sQ b xs (I.base.sQ b xs e),fun b o xs e=>qD b o xs (I.base.qD b o xs e),fun b ps e=> ?_⟩, ?_,fun x c e=> ?_, ?_,fun x c e=> ?_,fun p hp=> ?_,dO,I.len⟩
 ·exact keep b o (neL b o e) hb (neC b o e hx) (I.base.keep b o e n hb hx) (I.base.free b o e n hx)
 ·obtain⟨sl,e1⟩:=I.base.slot b o e n hb hx
  obtain⟨sl',e2⟩:=slot b _ (neL b o e) hb (neC b o e hx) e1 (I.base.free b o e n hx)
  exact⟨sl',e2⟩
 ·obtain⟨o',e1⟩:=I.base.there b o e hx
  exact free b o' (neC b o e hx) e1 (I.base.free b o e n hx)
 ·obtain⟨o',e1⟩:=I.base.there b o e hx
  exact there b o' (neC b o e hx) e1
 ·obtain⟨m1,e1⟩:=I.base.rE b ps e
  obtain⟨m2,e2⟩:=rE b _ e1
  exact⟨m1 ++ m2,by rw [e2,Array.append_assoc]⟩
 ·obtain⟨m,hn,hl⟩:=I.loc
  refine⟨m,ns m hn,fun i x v e1 e2 e3=> ?_⟩
  obtain⟨u,r,l⟩:=hl i x v e1 e2 e3
  refine⟨u,r, ?_⟩
  rcases l with l | ⟨k,c,e,z⟩
  ·exact .inl l
  ·exact .inr ⟨k,c,e,cellK x c e _ z⟩
 ·obtain⟨v,z⟩:=I.cell x c e
  exact⟨v,cellK x c e v z⟩
 ·obtain⟨m,⟨o,_,_,ho,_⟩,_⟩:=I.loc
  exact free _ o (fun z=>(hch _ z).2.1 rfl) ho I.free
 ·obtain⟨v,o,ho,hd⟩:=I.cell x c e
  exact free c o (fun z=>(hch c z).2.2.1 x c e rfl) ho (I.iJ x c e)
 ·obtain⟨e,n,ne,nf,d⟩:=I.pin p hp
  have nch:p.1∉ch:=fun z=>(hch p.1 z).2.2.2 p hp rfl
  exact⟨keep p.1 p.2 ne nf nch e n,free p.1 p.2 nch e n,ne,nf,d⟩
theorem Inv.un{t':Nat}(I:Inv X pins σ H s)(u:Un X.fs [] H H' s.heap h')(dO:n_ X.prog X.w H' h'):Inv X pins σ H' {s with heap:=h',toks:=t'}:=by
 obtain⟨m,⟨o,es,ep,ho,r⟩,_⟩:=id I.loc
 obtain⟨sl,hL⟩:=u.any ho I.free (by simp)
 exact I.step (g':=s.gens) (d':=s.drawn) (ch:= []) (fun _ z=>nomatch z) (fun b o _ hb _ e n=>u.keep b o e n hb (by simp)) (fun b o _ hb _ e n=>u.slot b o e n hb (by simp)) (fun b o _ e n=>u.free b o e n (by simp)) (fun b o _ e=>u.there b o e (by simp)) u.sQ u.qD u.rE (fun m' hm=>by
  obtain⟨o',es',ep',ho',r'⟩:=hm
  rw [ho]at ho'; cases ho'
  exact⟨_,es',ep',hL,r'⟩) dO I.bare
theorem Inv.call{g':Array wJ}{t':Nat}{d':Drawn}{ch:List Addr}(I:Inv X pins σ H s)(u:Un (sT X.stack) ch H H' s.heap h')(dO:n_ X.prog X.w H' h')(hg:lJ g')
  (hch: ∀b∈ch,(b∈X.ex\/X.s₀.heap.objs.size<=b)/\b≠X.env.locals/\(∀x c,X.env.cells.lookup x=some c->c≠b)/\ ∀p∈X.pn ++ pins,p.1≠b):
  Inv X pins σ H' {s with heap:=h',gens:=g',drawn:=d',toks:=t'}:=by
 obtain⟨m,⟨o,es,ep,ho,r⟩,_⟩:=id I.loc
 obtain⟨sl,hL⟩:=u.any ho I.free fun z=>(hch _ z).2.1 rfl
 exact I.step (ch:=ch) hch (fun b o hL hb hc e n=>u.keep b o e n (fun z=>(aK.mp (I.stkSub b z)).elim hL hb) hc) (fun b o _ _ hc e n=>u.any e n hc) (fun b o hc e n=>u.free b o e n hc) (fun b o hc e=>u.there b o e hc) u.sQ u.qD u.rE (fun m' hm=>by
  obtain⟨o',es',ep',ho',r'⟩:=hm
  rw [ho]at ho'; cases ho'
  exact⟨_,es',ep',hL,r'⟩) dO hg
theorem Inv.turned{t':Nat}{it:Addr}(I:Inv X pins σ H s)(k: ∀b o,b≠it->s.heap.get? b=some o->h'.get? b=some o)(hn:H it=none)(hL:it≠X.env.locals)
  (h1:it∈X.ex\/X.s₀.heap.objs.size<=it)(h2: ∀x c,X.env.cells.lookup x=some c->c≠it)(h3: ∀p∈X.pn ++ pins,p.1≠it):Inv X pins σ H {s with heap:=h',toks:=t'}:=by
 have nit: ∀b u,H b=some u->b≠it:=fun b u e z=>by rw [z,hn]at e; cases e
 refine I.step (g':=s.gens) (d':=s.drawn) (ch:= [it]) (fun b hb=> ?_) (fun b o _ _ hc e _=>k b o (fun z=>hc (by simp [z])) e) (fun b o _ _ hc e _=>⟨o.slots,k b o (fun z=>hc (by simp [z])) e⟩) (fun _ _ _ _ n=>n)
  (fun b o hc e=>⟨o,k b o (fun z=>hc (by simp [z])) e⟩) (fun _ _ e=>e) (fun _ _ _ e=>e) (fun b ps e=>⟨#[],by rw [e]; simp⟩) (fun m hm=> ?_) (fun b u e=> ?_) I.bare
 ·have e:b=it:=by simpa using hb
  subst e
  exact⟨h1,hL,h2,h3⟩
 ·obtain⟨o,es,ep,ho,r⟩:=hm
  exact⟨o,es,ep,k _ o (qN hL) ho,r⟩
 ·refine(I.dO b u e).stay (fun c v hc q=>k c v ?_ q) (fun _ q=>q) fun _ _ q=>q
  rcases hc with z | z
  ·rw [z]; exact nit b u e
  ·exact nit c _ z
theorem Inv.tok(I:Inv X pins σ H s)(t:Nat):Inv X pins σ H {s with toks:=t}:=I.un (h':=s.heap) (t':=t) Un.refl I.dO
theorem Inv.kept{t':Nat}(I:Inv X pins σ H s)(k: ∀b u,s.heap.get? b=some u->h'.get? b=some u):Inv X pins σ H {s with heap:=h',toks:=t'}:=I.un (Un.kept k) (I.dO.kept k)
theorem Inv.laid{a:Addr}{o:HO}{t':Nat}(I:Inv X pins σ H s)(k: ∀b u,s.heap.get? b=some u->h'.get? b=some u)(hp:s.heap.objs.size<=a)(new:fC X.prog X.w (upd H a o) h' a o):
  Inv X pins σ (upd H a o) {s with heap:=h',toks:=t'}:=I.un (Un.laid k hp (I.dO.fresh hp)) (I.dO.laid k hp new)
theorem Inv.write{x e:Addr}{o:HO}{t':Nat}(I:Inv X pins σ H s)(mu:Lq (H x))(he:e=x\/H e=some (.own x))(k: ∀b u,b≠e->s.heap.get? b=some u->h'.get? b=some u)(heo: ∃u,h'.get? e=some u)
  (new:fC X.prog X.w (upd H x o) h' x o):Inv X pins σ (upd H x o) {s with heap:=h',toks:=t'}:=I.un (Un.write mu he k heo) (I.dO.write mu he k heo new)
theorem Inv.pins_of{pins':List (Addr×Obj)}(I:Inv X pins σ H s)(h: ∀p∈pins',s.heap.get? p.1=some p.2/\H p.1=none/\p.1≠X.env.locals/\p.1∉X.fs/\ ∀v,p.2.data≠ .cell v):Inv X pins' σ H s:=
 ⟨I.ok,I.os,I.bare,I.base,I.loc,I.cell,I.free,I.iJ,fun p hp=>(bE.mp hp).elim (fun z=>I.pin p (dg _ z)) (h p),I.dO,I.len⟩
theorem sZ{N:List Str}(hN:N.Nodup){i j:Nat}{x:Str}(a:N[i]? =some x)(b:N[j]? =some x):i=j:=by
 obtain⟨h1,e1⟩:=aD.mp a
 obtain⟨h2,e2⟩:=aD.mp b
 exact(mx hN).mp (e1.trans e2.symm)
theorem qh{M:Model}{A:bh}{E:Value->ah->Prop}{i:Nat}{x:Str}{v:V}{u:Value}{Q:Unit->ah->Prop}(I:Inv X pins σ H s)(hN:X.N.Nodup)(hi:X.N[i]? =some x)(hx:Loc X.env.scope x)(r:RelV v u)
  (h: ∀s',Inv X pins (σ.set i (some v)) H s'->(∃a,bH a s.heap s'.heap/\(a=X.env.locals\/X.env.cells.lookup x=some a))->Q () s')(hf:X.fn x=true\/X.env.scope.names.lookup x=some .local:=by first | exact .inl rfl | exact .inr rfl | assumption):wpAny M A (storeName X.env x u) Q E s:=by
 obtain⟨m,hn,hl⟩:=id I.loc
 have hcls:(X.env.scope.kind== .class || (X.env.scope.kind== .module&&X.env.locals !=X.env.globals))=false:=by rw [I.ok.kind]; rfl
 have hiσ:i < σ.length:=by rw [I.len]; exact(aD.mp hi).1
 have cne:=I.cne
 have tracked: ∀{a:Addr} {h':Heap},(∃o,s.heap.get? a=some o/\H a=none)->bH a s.heap h'->n_ X.prog X.w H h':=fun{a h'} ha hs b ob e=>by
  obtain⟨_,_,hfree⟩:=ha
  refine(I.dO b ob e).stay (fun c w' hc q=>(hs.2 c ?_).trans q) (fun _ q=>q) fun _ _ q=>q
  rintro rfl
  rcases hc with rfl | hc
  ·rw [hfree]at e; cases e
  ·rw [hfree]at hc; cases hc
 rcases hx with hk | hk
 ·refine wpAny_storeName_local hk hn (fun h' hn' hs=> ?_) hcls
  obtain⟨oL,_,_,hoL,_⟩:=id hn
  refine h _ ⟨I.ok,I.os,I.bare,⟨fun b o e n hb hx=> ?_,fun b o e n hb hx=> ?_,I.base.free,fun b o e hx=> ?_,I.base.sQ,I.base.qD,I.base.rE⟩,⟨_,hn',fun j y v' e1 e2 e3=> ?_⟩,fun y c e=> ?_,I.free,I.iJ,fun p hp=> ?_,tracked ⟨oL,hoL,I.free⟩ hs,by simpa using I.len⟩ ⟨_,hs, .inl rfl⟩
  ·exact(hs.2 b (aE (aX (au e) I.ok.above))).trans (I.base.keep b o e n hb hx)
  ·obtain⟨sl,e1⟩:=I.base.slot b o e n hb hx
   exact⟨sl,(hs.2 b (aE (aX (au e) I.ok.above))).trans e1⟩
  ·obtain⟨o',e1⟩:=I.base.there b o e hx
   exact⟨o',(hs.2 b (aE (aX (au e) I.ok.above))).trans e1⟩
  ·by_cases hj:j=i
   ·subst hj
    rw [hi]at e1; cases e1
    rw [z5 hiσ]at e2
    cases e2
    exact⟨u,r, .inl ⟨hk,by simp⟩⟩
   ·rw [Ci (qN hj)]at e2
    obtain⟨u',r',q⟩:=hl j y v' e1 e2 e3
    refine⟨u',r', ?_⟩
    rcases q with⟨k,e⟩ | ⟨k,c,e,z⟩
    ·refine .inl ⟨k, ?_⟩
     have:y≠x:=fun e=>hj (sZ hN e1 (e▸hi))
     simp [this,e]
    ·exact .inr ⟨k,c,e,z.sameBut hs (cne y c e)⟩
  ·obtain⟨w',z⟩:=I.cell y c e
   exact⟨w',z.sameBut hs (cne y c e)⟩
  ·obtain⟨e,n,ne,nf,d⟩:=I.pin p hp
   exact⟨(hs.2 p.1 ne).trans e,n,ne,nf,d⟩
 ·have hfn:X.fn x=true:=by
   rcases hf with z | z
   ·exact z
   ·rw [z]at hk; cases hk
  obtain⟨c,hc⟩:=I.ok.has x (.inl hk)
  obtain⟨w',z⟩:=I.cell x c hc
  refine wpAny_storeName_cell I.ok.kind hk hc z (fun h' hc' hs=> ?_)
  obtain⟨oc,hoc,hocd⟩:=id z
  refine h {s with heap:=h'} ⟨I.ok,I.os,I.bare,⟨fun b o e n hb hx=> ?_,fun b o e n hb hx=> ?_,I.base.free,fun b o e hx=> ?_,I.base.sQ,I.base.qD,I.base.rE⟩,⟨m,hn.sameBut hs (qN (cne x c hc)),fun j y v' e1 e2 e3=> ?_⟩,fun y c' e=> ?_,I.free,I.iJ,fun p hp=> ?_,tracked ⟨oc,hoc,I.iJ x c hc⟩ hs,by simpa using I.len⟩ ⟨c,hs, .inr hc⟩
  ·exact(hs.2 b (aE (aX (au e) (I.ok.CD x c hfn hc)))).trans (I.base.keep b o e n hb hx)
  ·obtain⟨sl,e1⟩:=I.base.slot b o e n hb hx
   exact⟨sl,(hs.2 b (aE (aX (au e) (I.ok.CD x c hfn hc)))).trans e1⟩
  ·obtain⟨o',e1⟩:=I.base.there b o e hx
   exact⟨o',(hs.2 b (aE (aX (au e) (I.ok.CD x c hfn hc)))).trans e1⟩
  ·by_cases hj:j=i
   ·subst hj
    rw [hi]at e1; cases e1
    rw [z5 hiσ]at e2
    cases e2
    exact⟨u,r, .inr ⟨.inl hk,c,hc,hc'⟩⟩
   ·rw [Ci (qN hj)]at e2
    obtain⟨u',r',q⟩:=hl j y v' e1 e2 e3
    refine⟨u',r', ?_⟩
    rcases q with q | ⟨k,c',e,z'⟩
    ·exact .inl q
    ·refine .inr ⟨k,c',e,z'.sameBut hs ?_⟩
     rintro rfl
     exact hj (sZ hN e1 (I.ok.inj _ _ _ e hc▸hi))
  ·by_cases hcc:c'=c
   ·subst hcc; exact⟨_,hc'⟩
   ·obtain⟨w2,z2⟩:=I.cell y c' e
    exact⟨w2,z2.sameBut hs hcc⟩
  ·obtain⟨e,n,ne,nf,d⟩:=I.pin p hp
   refine⟨(hs.2 p.1 ?_).trans e,n,ne,nf,d⟩
   intro q
   rw [q,hoc]at e
   have q':oc=p.2:=aC e
   exact d w' (by rw [<-q']; exact hocd)
theorem xW{M:Model}{A:bh}{E:Value->ah->Prop}{i:Nat}{x:Str}{v:V}{u:Value}{Q:Unit->ah->Prop}(I:Inv X pins σ H s)(hN:X.N.Nodup)(hi:X.N[i]? =some x)(hx:Loc X.env.scope x)(r:RelV v u)
  (h: ∀s',Inv X pins (σ.set i (some v)) H s'->Q () s')(hf:X.fn x=true\/X.env.scope.names.lookup x=some .local:=by first | exact .inl rfl | exact .inr rfl | assumption):wpAny M A (storeName X.env x u) Q E s:=
 qh I hN hi hx r (fun s' I' _=>h s' I') hf
theorem Inv.call'{s':ah}{ch:List Addr}(I:Inv X pins σ H s)(ho:s'.os=s.os)(u:Un (sT X.stack) ch H H' s.heap s'.heap)(dO:n_ X.prog X.w H' s'.heap)(hg:lJ s'.gens)
  (hch: ∀b∈ch,(b∈X.ex\/X.s₀.heap.objs.size<=b)/\b≠X.env.locals/\(∀x c,X.env.cells.lookup x=some c->c≠b)/\ ∀p∈X.pn ++ pins,p.1≠b):Inv X pins σ H' s':=by
 obtain⟨h',g',d',t',o'⟩:=s'
 have e:o'=s.os:=ho
 subst e
 exact I.call (g':=g') (t':=t') (d':=d') u dO hg hch
end
abbrev XK:=Value->Option Addr->Hp->Prop
abbrev St:=List (Option V)
abbrev VK:=V->Hp->Prop
abbrev TE:=St->Hp->VK->Prop
abbrev TT:=St->Hp->(Bool->Hp->Prop)->Prop
abbrev TA:=St->Hp->(List V->Hp->Prop)->Prop
structure Ends where
 nx:St->Hp->Prop
 rt:VK
 bk:St->Hp->Prop:=fun _ _=>False
 ct:St->Hp->Prop:=fun _ _=>False
abbrev TS:=Ends->St->Hp->Prop
def EP(X:Cx)(pins:List (Addr×Obj))(σ:St)(Q:VK)(u:Value)(s':ah):Prop:= ∃v H',Inv X pins σ H' s'/\RelV v u/\Q v H'
def TP(X:Cx)(pins:List (Addr×Obj))(σ:St)(Q:Bool->Hp->Prop)(b:Bool)(s':ah):Prop:= ∃H',Inv X pins σ H' s'/\Q b H'
def AP(X:Cx)(pins:List (Addr×Obj))(σ:St)(Q:List V->Hp->Prop)(us:List Value)(s':ah):Prop:= ∃vs H',Inv X pins σ H' s'/\Vals vs us/\Q vs H'
def SP(X:Cx)(pins:List (Addr×Obj))(D:Ends)(f:Flow)(s':ah):Prop:=
 match f with
 | .next=> ∃σ' H',Inv X pins σ' H' s'/\D.nx σ' H'
 | .brk=> ∃σ' H',Inv X pins σ' H' s'/\D.bk σ' H'
 | .cont=> ∃σ' H',Inv X pins σ' H' s'/\D.ct σ' H'
 | .ret u=> ∃v σ' H',Inv X pins σ' H' s'/\RelV v u/\D.rt v H'
def PE(X:Cx)(e:Expr)(t:TE):Prop:=
 ∀(pins:List (Addr×Obj)) (s:ah) (σ:St) (H:Hp) (Q:VK),Inv X pins σ H s->t σ H Q->wpAny (model X.prog X.w) X.A (eval e X.env) (EP X pins σ Q) X.xe s
def PT(X:Cx)(e:Expr)(t:TT):Prop:=
 ∀(pins:List (Addr×Obj)) (s:ah) (σ:St) (H:Hp) (Q:Bool->Hp->Prop),Inv X pins σ H s->t σ H Q->wpAny (model X.prog X.w) X.A (isTrue e X.env (eval e X.env)) (TP X pins σ Q) X.xe s
def PW(X:Cx)(e:Expr)(t:TT):Prop:=
 ∀(whole:Sem Value) (pins:List (Addr×Obj)) (s:ah) (σ:St) (H:Hp) (Q:Bool->Hp->Prop),Inv X pins σ H s->t σ H Q->wpAny (model X.prog X.w) X.A (isTrue e X.env whole) (TP X pins σ Q) X.xe s
theorem PW.pt{X:Cx}{e:Expr}{t:TT}(h:PW X e t):PT X e t:=h _
def PA(X:Cx)(es:List Expr)(t:TA):Prop:=
 ∀(pos:Pos) (pins:List (Addr×Obj)) (s:ah) (σ:St) (H:Hp) (Q:List V->Hp->Prop),Inv X pins σ H s->t σ H Q->wpAny (model X.prog X.w) X.A (spliced (dZ pos (ar es X.env))) (AP X pins σ Q) X.xe s
def PS(X:Cx)(st:Stmt)(t:TS):Prop:=
 ∀(pins:List (Addr×Obj)) (s:ah) (σ:St) (H:Hp) (D:Ends),Inv X pins σ H s->t D σ H->wpAny (model X.prog X.w) X.A (exec st X.env) (SP X pins D) X.xe s
def zl(X:Cx)(st:List Stmt)(t:TS):Prop:=
 ∀(pins:List (Addr×Obj)) (s:ah) (σ:St) (H:Hp) (D:Ends),Inv X pins σ H s->t D σ H->wpAny (model X.prog X.w) X.A (execs st X.env) (SP X pins D) X.xe s
theorem eN{α:Type}{t:Sem α}{Q Q':α->ah->Prop}{M:Model}{A:bh}{E:Value->ah->Prop}{s:ah}(h:wpAny M A t Q E s)(hQ: ∀a s,Q a s->Q' a s):wpAny M A t Q' E s:=bN h hQ fun _ _ x=>x
end L2
namespace L2
open PySem PySem.Spec PyProof.Rows
section
variable {X:Cx}
def Mv(i:Nat):TE:=fun σ H Q=> ∃v,σ[i]? =some (some v)/\Q v H
def tC(v:V):TE:=fun _ H Q=>Q v H
theorem lU{i:Nat}{x:Str}{pos:Pos}(hN:X.N[i]? =some x)(hv:yy X.env.scope x)(hd:(x==("__debug__":Str))=false:=by decide)(hcd:(x==("__classdict__":Str))=false:=by decide):PE X (.Name x pos) (Mv i):=by
 intro pins s σ H Q I h
 obtain⟨v,e,h⟩:=h
 obtain⟨m,hn,hl⟩:=I.loc
 obtain⟨u,r,l⟩:=hl i x v hN e hv
 have fin:EP X pins σ Q u s:=⟨v,H,I,r,h⟩
 rcases l with⟨hk,hm⟩ | ⟨hk,c,hc,hcell⟩
 ·exact wpAny_Name (wpAny_loadName_local I.ok.kind hk hn hm fin) hd
 ·rcases hk with hk | hk
  ·exact wpAny_Name (wpAny_loadName_cell I.ok.kind hk hc hcell fin) hd
  ·exact wpAny_Name (wpAny_loadName_free I.ok.kind hk hc hcell fin hcd) hd
theorem J8{i j pos}:PE X (.Constant (.int i) j pos) (tC (.int i)):=fun _ _ _ H _ I h=>wpAny_Constant_int ⟨.int i,H,I.tok _,⟨_,rfl⟩,h⟩
theorem K3{b j pos}:PE X (.Constant (.bool b) j pos) (tC (.bl b)):=fun _ _ _ H _ I h=>Constant_bool ⟨.bl b,H,I,rfl,h⟩
theorem J5{j pos}:PE X (.Constant .none j pos) (tC .non):=fun _ _ _ H _ I h=>Constant_none ⟨.non,H,I,rfl,h⟩
theorem JU{x j pos}:PE X (.Constant (.str x) j pos) (tC (.str x)):=fun _ _ _ H _ I h=>Calls.Constant_str ⟨.str x,H,I.tok _,⟨_,rfl⟩,h⟩
def Gl(X:Cx)(x:Str):Prop:=X.env.kindOf x=some .globalImplicit
theorem lT{E:Value->ah->Prop}{pins:List (Addr×Obj)}{s:ah}{σ:St}{H:Hp}{x:Str}{u:Value}{pos:Pos}{Q:Value->ah->Prop}(I:Inv X pins σ H s)(hg:Gl X x)(hm:X.mg x=some u)(h:Q u s)
  (hd:(x==("__debug__":Str))=false:=by decide):wpAny (model X.prog X.w) X.A (eval (.Name x pos) X.env) Q E s:=
 Calls.Name_function_global I.ok.kind hg (Calls.loadGlobal_global (by rw [I.ok.glob]; exact I.mod.glob.keeps I.bk) hm h) hd
theorem pX{E:Value->ah->Prop}{pins:List (Addr×Obj)}{s:ah}{σ:St}{H:Hp}{x:Str}{u:Value}{pos:Pos}{Q:Value->ah->Prop}(I:Inv X pins σ H s)(hg:Gl X x)(hm:X.mg x=none)(hv:cZ x=some u)(h:Q u s)
  (hn:x≠"__name__":=by decide)(hd:(x==("__debug__":Str))=false:=by decide):wpAny (model X.prog X.w) X.A (eval (.Name x pos) X.env) Q E s:=by
 obtain⟨mb,h1,h2⟩:=I.mod.blt
 exact Calls.Name_function_global I.ok.kind hg (Calls.loadGlobal_builtin (by rw [I.ok.glob]; exact I.mod.glob.keeps I.bk) hm (by rw [I.ok.blt]; exact h1.keeps I.bk) ((h2 x hn).trans hv) h) hd
theorem A3{x:Str}{v:V}{u:Value}{pos:Pos}(hg:Gl X x)(hm:X.mg x=some u)(r:RelV v u)(hd:(x==("__debug__":Str))=false:=by decide):PE X (.Name x pos) (tC v):=
 fun _ _ _ H _ I h=>lT I hg hm ⟨v,H,I,r,h⟩ hd
theorem rh{x:Str}{v:V}{u:Value}{pos:Pos}(hg:Gl X x)(hm:X.mg x=none)(hv:cZ x=some u)(r:RelV v u)(hn:x≠"__name__":=by decide)(hd:(x==("__debug__":Str))=false:=by decide):PE X (.Name x pos) (tC v):=
 fun _ _ _ H _ I h=>pX I hg hm hv ⟨v,H,I,r,h⟩ hn hd
variable {a b:Expr}{ta tb:TE}{pos:Pos}
def tB(t:TE):TT:=fun σ H Q=>t σ H fun x H1=> ∃c,x= .bl c/\Q c H1
theorem Kc{e:Expr}{t:TE}(h:PE X e t)(he: ∀whole,isTrue e X.env whole=(do let v<-whole; standAt e.pos; kg [v] (truthy v)):=by intro _; rfl):PT X e (tB t):=by
 intro pins s σ H Q I hw
 refine isTrue_plain (eN (h pins s σ H _ I hw) fun v s1 ⟨x,H1,I1,r1,q1⟩=> ?_) (he _)
 obtain⟨d,rfl,q⟩:=q1
 cases r1
 exact ft ⟨H1,I1,q⟩
variable {tA tB':TT}{rest:List Expr}
def Mu(t u:TT):TT:=fun σ H Q=>t σ H fun c H1=>if c=true then u σ H1 Q else Q false H1
def NI(t u:TT):TT:=fun σ H Q=>t σ H fun c H1=>if c=true then Q true H1 else u σ H1 Q
def Mt(t:TT):TT:=fun σ H Q=>t σ H fun c H1=>Q (!c) H1
theorem pw_and1(ha:PT X a tA):PW X (.BoolOp .And [a] pos) tA:=by
 intro wh pins s σ H Q I h
 refine isTrue_and (eN (ha pins s σ H Q I h) fun c s1 e=> ?_)
 cases c with
 | true=>exact isTrue_and_nil e
 | false=>exact e
theorem pw_or1(ha:PT X a tA):PW X (.BoolOp .Or [a] pos) tA:=by
 intro wh pins s σ H Q I h
 refine isTrue_or (eN (ha pins s σ H Q I h) fun c s1 e=> ?_)
 cases c with
 | false=>exact isTrue_or_nil e
 | true=>exact e
theorem pw_and(ha:PT X a tA)(hb:PW X (.BoolOp .And (b::rest) pos) tB'):PW X (.BoolOp .And (a::b::rest) pos) (Mu tA tB'):=by
 intro wh pins s σ H Q I h
 refine isTrue_and (eN (ha pins s σ H _ I h) fun c s1 ⟨H1,I1,q1⟩=> ?_)
 cases c with
 | true=>exact hb wh pins s1 σ H1 Q I1 q1
 | false=>exact⟨H1,I1,q1⟩
theorem pw_or(ha:PT X a tA)(hb:PW X (.BoolOp .Or (b::rest) pos) tB'):PW X (.BoolOp .Or (a::b::rest) pos) (NI tA tB'):=by
 intro wh pins s σ H Q I h
 refine isTrue_or (eN (ha pins s σ H _ I h) fun c s1 ⟨H1,I1,q1⟩=> ?_)
 cases c with
 | true=>exact⟨H1,I1,q1⟩
 | false=>exact hb wh pins s1 σ H1 Q I1 q1
theorem Jq(ha:PT X a tA):PT X (.UnaryOp .Not a pos) (Mt tA):=by
 intro pins s σ H Q I h
 exact isTrue_not (ha pins s σ H (fun c H1=>Q (!c) H1) I h)
def KN(ta tb:TE):TE:=fun σ H Q=>ta σ H fun x H1=> ∃c,x= .bl c/\if c=true then tb σ H1 Q else Q (.bl false) H1
def Kv(ta:TE):TE:=fun σ H Q=>ta σ H fun x H1=> ∃c,x= .bl c/\Q (.bl (!c)) H1
theorem JK{op}{t:TE}(h:PE X a t):PE X (.BoolOp op [a] pos) t:=fun pins s σ H Q I hw=>BoolOp_one (h pins s σ H Q I hw)
theorem Ja(ha:PE X a ta)(hb:PE X (.BoolOp .And (b::rest) pos) tb):PE X (.BoolOp .And (a::b::rest) pos) (KN ta tb):=by
 intro pins s σ H Q I h
 refine BoolOp_and (eN (ha pins s σ H _ I h) fun v s1 ⟨x,H1,I1,r1,q1⟩=> ?_)
 obtain⟨c,rfl,q1⟩:=q1
 cases r1
 refine ft ?_
 cases c with
 | true=>exact hb pins s1 σ H1 Q I1 q1
 | false=>exact⟨.bl false,H1,I1,rfl,q1⟩
theorem Jw(ha:PE X a ta):PE X (.UnaryOp .Not a pos) (Kv ta):=by
 intro pins s σ H Q I h
 refine UnaryOp_ (eN (ha pins s σ H _ I h) fun v s1 ⟨x,H1,I1,r1,q1⟩=> ?_)
 obtain⟨c,rfl,q1⟩:=q1
 cases r1
 exact not_of (ft ⟨.bl (!c),H1,I1,rfl,q1⟩)
end
end L2
namespace L2
open PySem PySem.Spec PyProof.Rows
def ox(K:aL)(H:Hp)(a:Addr)(xs:List V):Prop:=
 Rd H a (.lst xs)\/
  ∃(o:Obj) (its:Array Value) (n:Nat),K.lookup a=some o/\o.cls= .type "list"/\o.dict=none/\o.data= .seq its n/\its.size<=sizeLine/\Vals xs its.toList
def jR(K:aL)(H:Hp)(a:Addr)(xs:List V):Prop:=
 Rd H a (.tup xs)\/
  ∃(o:Obj) (its:Array Value) (n:Nat),K.lookup a=some o/\o.cls= .type "tuple"/\o.data= .seq its n/\its.size<=sizeLine/\Vals xs its.toList
def Mm:Value->Option V
 | .none=>some .non
 | .bool b=>some (.bl b)
 | .int i _=>some (.int i)
 | .str x _=>some (.str x)
 | .bytes b _=>some (.byt b)
 | .float b _=>some (.flt b)
 | .ref a=>some (.ref a)
 | .type n=>some (.ty n)
 | _=>none
theorem RelV.abs{x:V}{u:Value}(r:RelV x u):Mm u=some x:=by
 cases x with
 | non=>cases r; rfl
 | bl _=>cases r; rfl
 | int _=>obtain⟨t,rfl⟩:=r; rfl
 | str _=>obtain⟨t,rfl⟩:=r; rfl
 | byt _=>obtain⟨t,rfl⟩:=r; rfl
 | flt _=>obtain⟨t,rfl⟩:=r; rfl
 | ref _=>cases r; rfl
 | ty _=>cases r; rfl
theorem RelV.inj{x y:V}{u:Value}(r:RelV x u)(q:RelV y u):x=y:=aC (r.abs.symm.trans q.abs)
theorem Vals.inj: ∀{xs ys:List V} {us:List Value},Vals xs us->Vals ys us->xs=ys
 | _,_,_, .nil, .nil=>rfl
 | _,_,_, .cons r t, .cons r' t'=>by rw [r.inj r',Vals.inj t t']
section
variable {X:Cx}{pins:List (Addr×Obj)}{σ:St}{H:Hp}{s:ah}{a:Addr}{xs ys:List V}
theorem ox.of{K:aL}(h:H a=some (.lst xs)):ox K H a xs:= .inl (.inl h)
theorem jR.of{K:aL}(h:H a=some (.tup xs)):jR K H a xs:= .inl (.inl h)
theorem Inv.list(I:Inv X pins σ H s)(h:ox X.K H a xs): ∃its:List Value,Vals xs its/\PlainL s.heap a its.toArray/\xs.length<=sizeLine:=by
 rcases h with h | ⟨o,its,n,hk,hc,hd,hs,hz,r⟩
 ·obtain⟨z,its,n,r,e⟩:=h.ok I.dO
  exact⟨its,r,⟨_,n,e,rfl,rfl,rfl⟩,z⟩
 ·refine⟨its.toList,r,⟨o,n,I.kIn a o hk,hc,hd,by simpa using hs⟩, ?_⟩
  have e:=r.length
  simp only [aj]at e
  omega
theorem Inv.tuple(I:Inv X pins σ H s)(h:jR X.K H a xs): ∃its:List Value,Vals xs its/\IsTup s.heap a its.toArray/\xs.length<=sizeLine:=by
 rcases h with h | ⟨o,its,n,hk,hc,hs,hz,r⟩
 ·obtain⟨z,its,r,p⟩:=h.ok I.dO
  exact⟨its,r,p,z⟩
 ·refine⟨its.toList,r,⟨o,I.kIn a o hk,hc,n,by simpa using hs⟩, ?_⟩
  have e:=r.length
  simp only [aj]at e
  omega
theorem Inv.list_inj(I:Inv X pins σ H s)(h:ox X.K H a xs)(h':ox X.K H a ys):xs=ys:=by
 obtain⟨its,r,⟨o,n,e,_,_,d⟩,_⟩:=I.list h
 obtain⟨its',r',⟨o',n',e',_,_,d'⟩,_⟩:=I.list h'
 rw [e]at e'; cases e'
 rw [d]at d'
 injection d' with d1 _
 have:its=its':=by simpa using congrArg Array.toList d1
 subst this
 exact r.inj r'
theorem Inv.tuple_inj(I:Inv X pins σ H s)(h:jR X.K H a xs)(h':jR X.K H a ys):xs=ys:=by
 obtain⟨its,r,⟨o,e,_,n,d⟩,_⟩:=I.tuple h
 obtain⟨its',r',⟨o',e',_,n',d'⟩,_⟩:=I.tuple h'
 rw [e]at e'; cases e'
 rw [d]at d'
 injection d' with d1 _
 have:its=its':=by simpa using congrArg Array.toList d1
 subst this
 exact r.inj r'
end
abbrev Cx.wish(X:Cx)(E:Value->ah->Prop):Cx:={X with xe:=E}
abbrev Cx.nox(X:Cx):Cx:=X.wish fun _ _=>False
theorem Cx.Ok.wish{X:Cx}(ok:X.Ok)(E:Value->ah->Prop):(X.wish E).Ok:=
 ⟨ok.mod,ok.kind,ok.glob,ok.blt,ok.above,ok.inj,ok.has,ok.CD,ok.hd,ok.frames,ok.qM,ok.GN,ok.bs,ok.wX,ok.pZ,ok.rD,ok.ll,ok.zg⟩
theorem Cx.Ok.unwish{X:Cx}{E:Value->ah->Prop}(ok:(X.wish E).Ok):X.Ok:=
 ⟨ok.mod,ok.kind,ok.glob,ok.blt,ok.above,ok.inj,ok.has,ok.CD,ok.hd,ok.frames,ok.qM,ok.GN,ok.bs,ok.wX,ok.pZ,ok.rD,ok.ll,ok.zg⟩
section
variable {X:Cx}{pins:List (Addr×Obj)}{σ:St}{H:Hp}{s:ah}{E:Value->ah->Prop}
theorem Inv.wish(I:Inv X pins σ H s)(E:Value->ah->Prop):Inv (X.wish E) pins σ H s:=⟨I.ok.wish E,I.os,I.bare,I.base,I.loc,I.cell,I.free,I.iJ,I.pin,I.dO,I.len⟩
theorem Inv.unwish(I:Inv (X.wish E) pins σ H s):Inv X pins σ H s:=⟨I.ok.unwish,I.os,I.bare,I.base,I.loc,I.cell,I.free,I.iJ,I.pin,I.dO,I.len⟩
theorem SP.unwish{D:Ends}{f:Flow}{s':ah}(h:SP (X.wish E) pins D f s'):SP X pins D f s':=by
 cases f with
 | next=>obtain⟨σ',H',I,q⟩:=h; exact⟨σ',H',I.unwish,q⟩
 | brk=>obtain⟨σ',H',I,q⟩:=h; exact⟨σ',H',I.unwish,q⟩
 | cont=>obtain⟨σ',H',I,q⟩:=h; exact⟨σ',H',I.unwish,q⟩
 | ret u=>obtain⟨v,σ',H',I,r,q⟩:=h; exact⟨v,σ',H',I.unwish,r,q⟩
theorem zl.nox{st:List Stmt}{t:TS}(h:zl X.nox st t):zl X st t:=fun pins s σ H D I hw=>
 bN (h pins s σ H D (I.wish _) hw) (fun _ _ q=>q.unwish) fun _ _ z=>cE z
end
section
variable {X:Cx}{st:Stmt}{rest:List Stmt}{t u:TS}{e:Expr}{te:TE}{pos:Pos}
def KO:TS:=fun D σ H=>D.nx σ H
def Ms(t u:TS):TS:=fun D σ H=>t {D with nx:=u D} σ H
theorem rA:zl X [] KO:=fun _ _ σ H _ I h=>nM ⟨σ,H,I,h⟩
theorem dq(h1:PS X st t)(h2:zl X rest u):zl X (st::rest) (Ms t u):=by
 intro pins s σ H D I h
 refine wpAny_execs_cons (eN (h1 pins s σ H {D with nx:=u D} I h) fun f s1 q=> ?_)
 cases f with
 | next=>
  obtain⟨σ',H',I',q⟩:=q
  exact h2 pins s1 σ' H' D I' q
 | ret v=>exact q
 | brk=>exact q
 | cont=>exact q
theorem rg(h1:PS X st t):zl X [st] t:=by
 intro pins s σ H D I h
 refine wpAny_execs_cons (eN (h1 pins s σ H D I h) fun f s1 q=> ?_)
 cases f with
 | next=>exact nM q
 | ret v=>exact q
 | brk=>exact q
 | cont=>exact q
theorem Inv.quiet{pins:List (Addr×Obj)}{σ:St}{H:Hp}{s:ah}(I:Inv X pins σ H s):interactive X.env=false:=by simp [interactive,I.ok.kind]
def Lb(te:TE):TS:=fun D σ H=>te σ H fun _ H1=>D.nx σ H1
theorem nB(he:PE X e te)(hs:cQ e none pos.line X.env=pure false:=by rfl):PS X (.Expr e pos) (Lb te):=by
 intro pins s σ H D I h
 exact wpAny_Expr_any (eN (he pins s σ H _ I h) fun v s1 ⟨x,H1,I1,r1,q1⟩=>⟨σ,H1,I1,q1⟩) I.quiet hs
def LO(te:TE):TS:=fun D σ H=>te σ H D.rt
theorem Jx(he:PE X e te):PS X (.Return (some e) pos) (LO te):=by
 intro pins s σ H D I h
 exact wpAny_Return_some (eN (he pins s σ H _ I h) fun v s1 ⟨x,H1,I1,r1,q1⟩=>⟨x,σ,H1,I1,r1,q1⟩)
def Ml(c:TT)(t u:TS):TS:=fun D σ H=>c σ H fun b H1=>if b=true then t D σ H1 else u D σ H1
theorem xN{c:Expr}{a b:List Stmt}{tc:TT}(hc:PT X c tc)(ha:zl X a t)(hb:zl X b u):PS X (.If c a b pos) (Ml tc t u):=by
 intro pins s σ H D I h
 refine wpAny_If (eN (hc pins s σ H _ I h) fun d s1 ⟨H1,I1,q1⟩=> ?_)
 cases d with
 | true=>exact ha pins s1 σ H1 D I1 q1
 | false=>exact hb pins s1 σ H1 D I1 q1
end
abbrev TG:=V->St->Hp->(St->Hp->Prop)->Prop
def PG(X:Cx)(target:Expr)(t:TG):Prop:=
 ∀(pins:List (Addr×Obj)) (s:ah) (σ:St) (H:Hp) (v:V) (u:Value) (Q:St->Hp->Prop),Inv X pins σ H s->RelV v u->t v σ H Q->
  wpAny (model X.prog X.w) X.A (oX target X.env u) (fun _ s'=> ∃σ' H',Inv X pins σ' H' s'/\Q σ' H') X.xe s
abbrev J7:=V->V->V->Hp->(Hp->Prop)->Prop
def Kz(X:Cx)(t:J7):Prop:=
 ∀(pins:List (Addr×Obj)) (s:ah) (σ:St) (H:Hp) (o i v:V) (ov iv u:Value) (Q:Hp->Prop),Inv X pins σ H s->RelV o ov->RelV i iv->RelV v u->t o i v H Q->
  wpAny (model X.prog X.w) X.A (setItem ov iv u) (fun _ s'=> ∃H',Inv X pins σ H' s'/\Q H') X.xe s
section
variable {X:Cx}{pos:Pos}
def Io(i:Nat):TG:=fun v σ H Q=>Q (σ.set i (some v)) H
theorem rf{i:Nat}{x:Str}(hN:X.N.Nodup)(hi:X.N[i]? =some x)(hx:Loc X.env.scope x)(hf:X.fn x=true\/X.env.scope.names.lookup x=some .local:=by first | exact .inl rfl | exact .inr rfl | assumption):PG X (.Name x pos) (Io i):=by
 intro pins s σ H v u Q I r h
 exact wpAny_assign_Name (xW I hN hi hx r (fun s' I'=>⟨_,H,I',h⟩) hf)
def L6(to ti:TE)(t:J7):TG:=fun v σ H Q=>to σ H fun o H1=>ti σ H1 fun i H2=>t o i v H2 fun H3=>Q σ H3
theorem Jy{o i:Expr}{to ti:TE}{t:J7}(ho:PE X o to)(hi:PE X i ti)(hs:Kz X t)
  (ha: ∀v,oX (.Subscript o i pos) X.env v=(do
   let ov<-kg [v] (eval o X.env)
   let iv<-kg [v,ov] (eval i X.env)
   standAt pos
   kg [v,ov,iv] (setItem ov iv v)
   release [v,ov,iv] []):=by intro _; rfl):PG X (.Subscript o i pos) (L6 to ti t):=by
 intro pins s σ H v u Q I r h
 rw [ha]
 refine aa (bG (eN (ho pins s σ H _ I h) fun ov s1 ⟨x,H1,I1,r1,q1⟩=> ?_))
 refine aa (bG (eN (hi pins s1 σ H1 _ I1 q1) fun iv s2 ⟨y,H2,I2,r2,q2⟩=> ?_))
 refine aa (pU (aa (bG (eN (hs pins s2 σ H2 x y v ov iv u _ I2 r1 r2 r q2) fun _ s3 ⟨H3,I3,q3⟩=> ?_))))
 exact wpAny_release ⟨σ,H3,I3,q3⟩
def Ko(te:TE)(g:TG):TS:=fun D σ H=>te σ H fun x H1=>g x σ H1 D.nx
theorem JS{tg e:Expr}{te:TE}{g:TG}(he:PE X e te)(hg:PG X tg g)(hs:swapsWithSole [tg] e pos.line X.env=pure false:=by rfl)(hw:swappedStores [tg] e X.env=pure none:=by rfl)
  (h1:(assignEach [tg] X.env).map (·.2)= [oX tg X.env]:=by rfl):PS X (.Assign [tg] e pos) (Ko te g):=by
 intro pins s σ H D I h
 refine wpAny_Assign_stores (eN (he pins s σ H _ I h) fun v s1 ⟨x,H1,I1,r1,q1⟩=> ?_) hs hw
 rw [h1]
 exact eN (hg pins s1 σ H1 x v _ I1 r1 q1) fun _ s2 q=>q
theorem qd{i:Nat}{x:Str}{e:Expr}{te:TE}{pos':Pos}(hN:X.N.Nodup)(hi:X.N[i]? =some x)(hx:Loc X.env.scope x)(he:PE X e te)(hs:cQ e (some (.Name x pos')) pos.line X.env=pure false:=by rfl)(hf:X.fn x=true\/X.env.scope.names.lookup x=some .local:=by first | exact .inl rfl | exact .inr rfl | assumption):
  PS X (.Assign [.Name x pos'] e pos) (Ko te (Io i)):=by
 intro pins s σ H D I h
 refine wpAny_Assign_Name (eN (he pins s σ H _ I h) fun v s1 ⟨y,H1,I1,r1,q1⟩=> ?_) hs
 exact xW I1 hN hi hx r1 (fun s2 I2=>⟨_,H1,I2,q1⟩) hf
end
section
variable {X:Cx}{pos:Pos}
def JR(c:TT)(tb:TS):TS:=fun D σ H=> ∃W:Nat->St->Hp->Prop,(∃m,W m σ H)/\ ∀m σ H,W m σ H->
 c σ H fun b H1=>if b=true then ∃N:St->Hp->Prop,(∀σ' H',N σ' H'-> ∃m',m' < m/\W m' σ' H')/\tb {D with nx:=N,ct:=N,bk:=D.nx} σ H1 else D.nx σ H1
theorem xb{c:Expr}{body:List Stmt}{tc:TT}{tb:TS}(hp:tU (model X.prog X.w) X.A X.env X.xe)(hc:PT X c tc)(hb:zl X body tb):PS X (.While c body [] pos) (JR tc tb):=by
 intro pins s σ H D I h
 obtain⟨W,⟨m0,w0⟩,turn⟩:=h
 refine wpAny_While (codeAny_whileLoop (fun n s'=> ∃σ' H',Inv X pins σ' H' s'/\W n σ' H') ?_ m0 ⟨σ,H,I,w0⟩)
 rintro n s1 ⟨σ1,H1,I1,w1⟩
 refine iB hp (eN (hc pins s1 σ1 H1 _ I1 (turn n σ1 H1 w1)) fun b s2 ⟨H2,I2,q2⟩=> ?_)
 cases b with
 | true=>
  obtain⟨N,hN,q2⟩:=q2
  rw [if_pos rfl]
  refine iB hp (eN (hb pins s2 σ1 H2 _ I2 q2) fun f s3 q3=> ?_)
  cases f with
  | next=>
   obtain⟨σ3,H3,I3,n3⟩:=q3
   obtain⟨m',hm,w3⟩:=hN σ3 H3 n3
   exact⟨m',hm,σ3,H3,I3,w3⟩
  | cont=>
   obtain⟨σ3,H3,I3,n3⟩:=q3
   obtain⟨m',hm,w3⟩:=hN σ3 H3 n3
   exact⟨m',hm,σ3,H3,I3,w3⟩
  | brk=>exact q3
  | ret v=>exact q3
 | false=>
  rw [if_neg aA]
  exact nM ⟨σ1,H2,I2,q2⟩
end
structure It where
 go:Nat->Hp->Prop
 LR:Nat->Hp->V->Hp->Prop
 stop:Nat->Hp->Prop
def jF(X:Cx)(pins:List (Addr×Obj))(H:Hp)(b:Addr):Prop:=
 H b=none/\b≠X.env.locals/\b∉X.fs/\(b∈X.ex\/X.s₀.heap.objs.size<=b)/\(∀x c,X.env.cells.lookup x=some c->c≠b)/\ ∀p∈X.pn ++ pins,p.1≠b
theorem Inv.fpOk{X:Cx}{pins:List (Addr×Obj)}{σ:St}{H H':Hp}{s:ah}{b:Addr}(I:Inv X pins σ H s)(hb:s.heap.objs.size<=b)(hn:H' b=none):jF X pins H' b:=by
 refine⟨hn,bP (aX I.lt hb),I.nofs hb, .inr (bu I.sz hb),fun x c e z=> ?_,fun p hp z=> ?_⟩
 ·obtain⟨v,q⟩:=I.cell x c e
  exact absurd (aX q.lt (by rw [z]; exact hb)) (dS _)
 ·exact absurd (aX (au (I.pin p hp).1) (by rw [z]; exact hb)) (dS _)
structure Turn(P:aq)(w:World)(K:aL)(tg:Expr)(J:It)(fp:List Addr)(it:Addr)(tn:Nat->Heap->Prop):Prop where
 mem:it∈fp
 obj: ∀i h,tn i h-> ∀b∈fp, ∃o,h.get? b=some o/\ ∀v,o.data≠ .cell v
 keep: ∀i h h',tn i h->(∀b∈fp, ∀o,h.get? b=some o->h'.get? b=some o)->tn i h'
 item: ∀(X:Cx),X.prog=P->X.w=w->X.K=K->X.calm=true-> ∀(i:Nat) (pins:List (Addr×Obj)) (s:ah) (σ:St) (H:Hp) (E:Value->ah->Prop),Inv X pins σ H s->(∀b∈fp,jF X pins H b)->tn i s.heap->J.go i H->
  wpAny (model P w) X.A (iS (.ref it)) (fun r s1=> ∃u,r=some u/\
   wpAny (model P w) X.A (nN tg (.ref it) u) (fun _ s2=> ∃x H',Inv X pins σ H' s2/\RelV x u/\J.LR i H x H'/\tn (i+1) s2.heap/\ ∀b∈fp,H' b=none) E s1) E s
 done: ∀(X:Cx),X.prog=P->X.w=w->X.K=K->X.calm=true-> ∀(i:Nat) (pins:List (Addr×Obj)) (s:ah) (σ:St) (H:Hp) (E:Value->ah->Prop),Inv X pins σ H s->(∀b∈fp,jF X pins H b)->tn i s.heap->J.stop i H->
  wpAny (model P w) X.A (iS (.ref it)) (fun r s1=>r=none/\Inv X pins σ H s1) E s
 self: ∀(A:bh) (i:Nat) (s:ah) (Q:Value->ah->Prop) (E:Value->ah->Prop),tn i s.heap->Q (.ref it) s->wpAny (model P w) A (tV (.ref it)) Q E s
abbrev TI:=St->Hp->(It->Hp->Prop)->Prop
def LY(X:Cx)(pins:List (Addr×Obj))(σ:St)(tg:Expr)(R:It->Hp->Prop)(itv:Value)(s2:ah):Prop:=
 ∃(it:Addr) (fp:List Addr) (tn:Nat->Heap->Prop) (J:It) (H':Hp),itv= .ref it/\Inv X pins σ H' s2/\Turn X.prog X.w X.K tg J fp it tn/\tn 0 s2.heap/\(∀b∈fp,jF X pins H' b)/\R J H'
def PI(X:Cx)(tg iter:Expr)(wi:TI):Prop:=
 ∀(pins:List (Addr×Obj)) (s:ah) (σ:St) (H:Hp) (R:It->Hp->Prop),Inv X pins σ H s->wi σ H R->
  wpAny (model X.prog X.w) X.A (eval iter X.env) (fun v s1=>wpAny (model X.prog X.w) X.A (tV v) (LY X pins σ tg R) X.xe s1) X.xe s
theorem Fe{M:Model}{A:bh}{E:Value->ah->Prop}{s:ah}{tg:Expr}{it:Addr}{u:Value}{o:Obj}{n:String}{vs:Array Value}{Q:Unit->ah->Prop}(ho:s.heap.get? it=some o)(hc:o.cls= .type n)(hd:o.data= .fields vs)
    (hn: ["enumerate","zip","dict_itemiterator","dict_reverseitemiterator","odict_iterator","itertools.zip_longest","itertools.pairwise"].contains n=false)(hQ:Q () s):wpAny M A (nN tg (.ref it) u) Q E s:=by
  unfold nN
  cases tg <;> first
    | exact af hQ
    | (cases u <;> first
        | exact af hQ
        | (refine aa (wpAny_load ho ?_)
           rw [hc,hd]
           show wpAny M A (if(["enumerate","zip","dict_itemiterator","dict_reverseitemiterator","odict_iterator","itertools.zip_longest","itertools.pairwise"].contains n&&vs[0]? ==some (d_ _))=true then _ else _) Q E s
           rw [if_neg (by intro h; rw [hn,eX]at h; cases h)]
           exact af hQ))
def L0(K:aL)(a:Addr):It:=
 ⟨fun i H=> ∃xs x,ox K H a xs/\xs[i]? =some x,fun i H x H'=>H'=H/\ ∀xs,ox K H a xs->xs[i]? =some x,fun i H=> ∃xs,ox K H a xs/\xs.length<=i⟩
def LC(K:aL)(a:Addr):It:=
 ⟨fun i H=> ∃xs x,jR K H a xs/\xs[i]? =some x,fun i H x H'=>H'=H/\ ∀xs,jR K H a xs->xs[i]? =some x,fun i H=> ∃xs,jR K H a xs/\xs.length<=i⟩
def Kn(lo:Int)(n:Nat):It:=⟨fun i _=>i < n,fun i H x H'=>H'=H/\x= .int (lo+i),fun i _=>n<=i⟩
theorem BK{P:aq}{w:World}{K:aL}{tg:Expr}(a it:Addr):Turn P w K tg (L0 K a) [it] it (fun i h=>h.IsListIter it a i) where
 mem:=by simp
 obj:=fun i h st b hb=>by
  have e:b=it:=by simpa using hb
  subst e
  obtain⟨o,e,c,d⟩:=st
  exact⟨o,e,fun v z=>by rw [d]at z; cases z⟩
 keep:=fun i h h' st k=>st.at fun o e=>k it (by simp) o e
 item:=by
  intro X hP hw hK hc i pins s σ H E I hf st hg
  subst hP hw hK
  obtain⟨xs,x,hq,hx⟩:=hg
  obtain⟨its,rv,p,hz⟩:=I.list hq
  obtain⟨u,hu,ru⟩:=rv.get hx
  obtain⟨f0,f1,f2,f3,f4,f5⟩:=hf it (by simp)
  refine wpAny_pyNext_list_item st p.isList (x:=u) (by simpa using hu) fun h' st' sb=> ?_
  have I1:Inv X pins σ H {s with heap:=h'}:=I.turned (t':=s.toks) (fun b o hb e=>(sb.2 b hb).trans e) f0 f1 f3 f4 f5
  obtain⟨o,e,c,d⟩:=id st'
  exact⟨u,rfl,Fe (s:={s with heap:=h'}) e c d (by decide) ⟨x,H,I1,ru,⟨rfl,fun ys hy=>by rw [I.list_inj hy hq]; exact hx⟩,st',fun b hb=>(hf b hb).1⟩⟩
 done:=by
  intro X hP hw hK hc i pins s σ H E I hf st hg
  subst hP hw hK
  obtain⟨xs,hq,hx⟩:=hg
  obtain⟨its,rv,p,hz⟩:=I.list hq
  obtain⟨f0,f1,f2,f3,f4,f5⟩:=hf it (by simp)
  have hl:=rv.length
  exact wpAny_pyNext_list_end (I.ok.hd hc) st p.isList (by simp; omega) fun h' eb=>⟨rfl,I.turned (t':=s.toks) (fun b o hb e=>eb b o hb e) f0 f1 f3 f4 f5⟩
 self:=fun _ _ _ _ _ st h=>wpAny_pyIter_listiter st h
theorem zE{P:aq}{w:World}{K:aL}{tg:Expr}(a it:Addr):Turn P w K tg (LC K a) [it] it (fun i h=>h.IsTupleIter it a i) where
 mem:=by simp
 obj:=fun i h st b hb=>by
  have e:b=it:=by simpa using hb
  subst e
  obtain⟨o,e,c,d⟩:=st
  exact⟨o,e,fun v z=>by rw [d]at z; cases z⟩
 keep:=fun i h h' st k=>st.at fun o e=>k it (by simp) o e
 item:=by
  intro X hP hw hK hc i pins s σ H E I hf st hg
  subst hP hw hK
  obtain⟨xs,x,hq,hx⟩:=hg
  obtain⟨its,rv,p,hz⟩:=I.tuple hq
  obtain⟨u,hu,ru⟩:=rv.get hx
  obtain⟨f0,f1,f2,f3,f4,f5⟩:=hf it (by simp)
  refine wpAny_pyNext_tuple_item st (show s.heap.IsTuple a its.toArray from p) (x:=u) (by simpa using hu) fun h' st' sb=> ?_
  have I1:Inv X pins σ H {s with heap:=h'}:=I.turned (t':=s.toks) (fun b o hb e=>(sb.2 b hb).trans e) f0 f1 f3 f4 f5
  obtain⟨o,e,c,d⟩:=id st'
  exact⟨u,rfl,Fe (s:={s with heap:=h'}) e c d (by decide) ⟨x,H,I1,ru,⟨rfl,fun ys hy=>by rw [I.tuple_inj hy hq]; exact hx⟩,st',fun b hb=>(hf b hb).1⟩⟩
 done:=by
  intro X hP hw hK hc i pins s σ H E I hf st hg
  subst hP hw hK
  obtain⟨xs,hq,hx⟩:=hg
  obtain⟨its,rv,p,hz⟩:=I.tuple hq
  obtain⟨f0,f1,f2,f3,f4,f5⟩:=hf it (by simp)
  have hl:=rv.length
  exact wpAny_pyNext_tuple_end (I.ok.hd hc) st (show s.heap.IsTuple a its.toArray from p) (by simp; omega) fun h' eb=>⟨rfl,I.turned (t':=s.toks) (fun b o hb e=>eb b o hb e) f0 f1 f3 f4 f5⟩
 self:=fun _ _ _ _ _ st h=>wpAny_pyIter_tupleiter st h
theorem y_{P:aq}{w:World}{K:aL}{tg:Expr}(it:Addr)(lo:Int)(n:Nat):Turn P w K tg (Kn lo n) [it] it (fun i h=>IsRangeIter h it (lo+(i:Nat) * 1) ((n:Int) - (i:Nat)) 1) where
 mem:=by simp
 obj:=fun i h st b hb=>by
  have e:b=it:=by simpa using hb
  subst e
  exact⟨_,st,fun v z=>by
   have z':Data.fields _=Data.cell v:=z
   cases z'⟩
 keep:=fun i h h' st k=>k it (by simp) _ st
 item:=by
  intro X hP hw hK hc i pins s σ H E I hf st hg
  subst hP hw hK
  obtain⟨f0,f1,f2,f3,f4,f5⟩:=hf it (by simp)
  have W:=Walks.range (prog:=X.prog) (w:=X.w) (I.ok.hd hc) it lo 1 n
  refine W.item i s _ _ hg st fun v h' tk hv st' kk=> ?_
  obtain⟨t,rfl⟩:=hv
  have I1:Inv X pins σ H {s with heap:=h',toks:=tk}:=I.turned (fun b o hb e=>kk b o (by simpa using hb) e) f0 f1 f3 f4 f5
  refine⟨_,rfl,Fe (s:={s with heap:=h',toks:=tk}) (n:="range_iterator") st' rfl rfl (by decide) ⟨.int (lo+i),H,I1,⟨t, ?_⟩,⟨rfl,rfl⟩,st',fun b hb=>(hf b hb).1⟩⟩
  rw [Int.mul_one]
 done:=by
  intro X hP hw hK hc i pins s σ H E I hf st hg
  subst hP hw hK
  obtain⟨f0,f1,f2,f3,f4,f5⟩:=hf it (by simp)
  exact wpAny_pyNext_range_end (I.ok.hd hc) st (by have:n<=i:=hg; omega) fun h' eb=>⟨rfl,I.turned (t':=s.toks) (fun b o hb e=>eb b o hb e) f0 f1 f3 f4 f5⟩
 self:=fun _ _ _ _ _ st h=>wpAny_pyIter_rangeiter st h
end L2
namespace L2
open PySem PySem.Spec PyProof.Rows
section
variable {X:Cx}{tg:Expr}
def Lc(K:aL)(tl:TE):TI:=fun σ H R=>tl σ H fun x H1=> ∃a,x= .ref a/\(∃xs,ox K H1 a xs)/\R (L0 K a) H1
def Mb(K:aL)(tl:TE):TI:=fun σ H R=>tl σ H fun x H1=> ∃a,x= .ref a/\(∃xs,jR K H1 a xs)/\R (LC K a) H1
theorem AB{l:Expr}{tl:TE}(hl:PE X l tl):PI X tg l (Lc X.K tl):=by
 intro pins s σ H R I h
 refine eN (hl pins s σ H _ I h) fun v s1 ⟨x,H1,I1,r1,q1⟩=> ?_
 obtain⟨a,e,⟨xs,hq⟩,q⟩:=q1
 subst e
 cases r1
 obtain⟨its,rv,p,hz⟩:=I1.list hq
 refine qO p.isList ?_
 refine⟨s1.heap.objs.size, [s1.heap.objs.size],_,_,H1,rfl,I1.kept (t':=s1.toks) fun b o e=>ag _ e,BK a _,⟨_,aw _ rfl,rfl,rfl⟩,fun b hb=> ?_,q⟩
 have e:b=s1.heap.objs.size:=by simpa using hb
 subst e
 exact I1.fpOk (ay _) (I1.dO.fresh (ay _))
theorem Ji{l:Expr}{tl:TE}(hl:PE X l tl):PI X tg l (Mb X.K tl):=by
 intro pins s σ H R I h
 refine eN (hl pins s σ H _ I h) fun v s1 ⟨x,H1,I1,r1,q1⟩=> ?_
 obtain⟨a,e,⟨xs,hq⟩,q⟩:=q1
 subst e
 cases r1
 obtain⟨its,rv,p,hz⟩:=I1.tuple hq
 refine FV (show s1.heap.IsTuple a its.toArray from p) ?_
 refine⟨s1.heap.objs.size, [s1.heap.objs.size],_,_,H1,rfl,I1.kept (t':=s1.toks) fun b o e=>ag _ e,zE a _,⟨_,aw _ rfl,rfl,rfl⟩,fun b hb=> ?_,q⟩
 have e:b=s1.heap.objs.size:=by simpa using hb
 subst e
 exact I1.fpOk (ay _) (I1.dO.fresh (ay _))
theorem yi{pins:List (Addr×Obj)}{σ:St}{H:Hp}{s:ah}{R:It->Hp->Prop}{E:Value->ah->Prop}{lo hi:Int}{t u v:Tok}{tk:Nat}(I:Inv X pins σ H s)(h1: -(2 ^ 62)<=lo)(h2:lo < 2 ^ 62)(h3: -(2 ^ 62)<=hi)(h4:hi < 2 ^ 62)
  (q:R (Kn lo (hi - lo).toNat) H):wpAny (model X.prog X.w) X.A (tV (.ref s.heap.objs.size)) (LY X pins σ tg R) E {s with heap:=s.heap.push {cls:= .type "range",data:= .fields #[.int lo t, .int hi u, .int 1 v]},toks:=tk}:=by
 refine wpAny_pyIter_range (IsRange.new ..) (small_one h1 h2 h3 h4) ?_
 have I1:Inv X pins σ H {s with heap:=s.heap.push {cls:= .type "range",data:= .fields #[.int lo t, .int hi u, .int 1 v]},toks:=tk}:=I.kept fun b o e=>ag _ e
 refine⟨(s.heap.push {cls:= .type "range",data:= .fields #[.int lo t, .int hi u, .int 1 v]}).objs.size, [(s.heap.push {cls:= .type "range",data:= .fields #[.int lo t, .int hi u, .int 1 v]}).objs.size],_,_,H,rfl,
  I1.kept (t':=tk) fun b o e=>ag _ e,y_ _ lo (hi - lo).toNat, ?_,fun b hb=> ?_,q⟩
 ·have e1:lo+((0:Nat):Int) * 1=lo:=by simp
  have e2:(((hi - lo).toNat:Nat):Int) - ((0:Nat):Int)=Builtin.Range.rangeSize lo hi 1:=by rw [rangeSize_one]; split <;> omega
  show IsRangeIter _ _ (lo+((0:Nat):Int) * 1) ((((hi - lo).toNat:Nat):Int) - ((0:Nat):Int)) 1
  rw [e1,e2]
  exact aw _ rfl
 ·have e:b=(s.heap.push {cls:= .type "range",data:= .fields #[.int lo t, .int hi u, .int 1 v]}).objs.size:=by simpa using hb
  subst e
  exact I1.fpOk (ay _) (I1.dO.fresh (ay _))
def KY(ta:TA):TI:=fun σ H R=>ta σ H fun vs H1=> ∃j:Int,vs= [.int j]/\ -(2 ^ 62)<=j/\j < 2 ^ 62/\R (Kn 0 j.toNat) H1
def K5(ta:TA):TI:=fun σ H R=>ta σ H fun vs H1=> ∃i j:Int,vs= [.int i, .int j]/\(-(2 ^ 62)<=i/\i < 2 ^ 62/\ -(2 ^ 62)<=j/\j < 2 ^ 62)/\R (Kn i (j - i).toNat) H1
theorem Bl{a:Expr}{ta:TA}{p pos:Pos}(hg:Gl X "range")(hm:X.mg "range"=none)(ha:PA X [a] ta)(hs:ar [a] X.env= [(false,eval a X.env)]:=by rfl):PI X tg (.Call (.Name "range" p) [a] [] pos) (KY ta):=by
 intro pins s σ H R I h
 refine Call_ (pX I hg hm boot_range (kh (eN (ha pos pins s σ H _ I h) fun us s1 ⟨vs,H1,I1,r1,q1⟩=> ?_) hs rfl))
 obtain⟨j,e,q1,q2,q⟩:=q1
 subst e
 cases r1 with
 | cons r rr=>
  cases rr
  obtain⟨t,rfl⟩:=r
  exact call_range_1 (yi I1 (by omega) (by omega) q1 q2 (by simpa using q))
theorem Cd{a b:Expr}{ta:TA}{p pos:Pos}(hg:Gl X "range")(hm:X.mg "range"=none)(ha:PA X [a,b] ta)(hs:ar [a,b] X.env= [(false,eval a X.env),(false,eval b X.env)]:=by rfl)(hs2:ar [b] X.env= [(false,eval b X.env)]:=by rfl):
  PI X tg (.Call (.Name "range" p) [a,b] [] pos) (K5 ta):=by
 intro pins s σ H R I h
 refine Call_ (pX I hg hm boot_range (kh (eN (ha pos pins s σ H _ I h) fun us s1 ⟨vs,H1,I1,r1,q1⟩=> ?_) (by rw [hs,hs2]) (by rw [hs2]; rfl)))
 obtain⟨i,j,e,⟨q1,q2,q3,q4⟩,q⟩:=q1
 subst e
 cases r1 with
 | cons r rr=>
  cases rr with
  | cons r' rr=>
   cases rr
   obtain⟨t,rfl⟩:=r
   obtain⟨t',rfl⟩:=r'
   exact call_range_2 (yi I1 q1 q2 q3 q4 q)
def LD(wi:TI)(g:TG)(tb:TS):TS:=fun D σ H=>wi σ H fun J H1=> ∃W:Nat->Nat->St->Hp->Prop,(∃m,W 0 m σ H1)/\ ∀i m σ H,W i m σ H->
 (J.stop i H/\D.nx σ H)\/(J.go i H/\ ∃N:St->Hp->Prop,(∀σ' H',N σ' H'-> ∃m',m' < m/\W (i+1) m' σ' H')/\ ∀x H',J.LR i H x H'->g x σ H' fun σ2 H2=>tb {D with nx:=N,ct:=N,bk:=D.nx} σ2 H2)
def vU(fp:List Addr)(h:Heap):List (Addr×Obj):=fp.filterMap fun b=>(h.get? b).map fun o=>(b,o)
theorem gJ{fp:List Addr}{h:Heap}{b:Addr}{o:Obj}(hb:b∈fp)(e:h.get? b=some o):(b,o)∈vU fp h:=List.mem_filterMap.mpr ⟨b,hb,by rw [e]; rfl⟩
theorem BU{fp:List Addr}{h:Heap}{p:Addr×Obj}(hp:p∈vU fp h):p.1∈fp/\h.get? p.1=some p.2:=by
 obtain⟨b,hb,e⟩:=List.mem_filterMap.mp hp
 cases q:h.get? b with
 | none=>rw [q]at e; cases e
 | some o=>
  rw [q]at e
  have e':(b,o)=p:=aC e
  subst e'
  exact⟨hb,q⟩
theorem Inv.pinned{pins:List (Addr×Obj)}{σ:St}{H:Hp}{s:ah}{fp:List Addr}(I:Inv X pins σ H s)(hf: ∀b∈fp,jF X pins H b)(ho: ∀b∈fp, ∃o,s.heap.get? b=some o/\ ∀v,o.data≠ .cell v):Inv X (pins ++ vU fp s.heap) σ H s:=
 I.pins_of fun p hp=>(bE.mp hp).elim (fun z=>I.pin p (aT _ z)) fun z=>by
  obtain⟨hb,e⟩:=BU z
  obtain⟨f0,f1,f2,_⟩:=hf p.1 hb
  obtain⟨o,e',d⟩:=ho p.1 hb
  rw [e]at e'; cases e'
  exact⟨e,f0,f1,f2,d⟩
theorem Inv.unpinned{pins pl:List (Addr×Obj)}{σ:St}{H:Hp}{s:ah}(I:Inv X (pins ++ pl) σ H s):Inv X pins σ H s:=I.pins_of fun p hp=>I.pin p (aT _ (dg _ hp))
theorem Ed{iter:Expr}{body:List Stmt}{wi:TI}{g:TG}{tb:TS}{pos:Pos}(hp:tU (model X.prog X.w) X.A X.env X.xe)(hc:X.calm=true)(hi:PI X tg iter wi)(hg:PG X tg g)(hb:zl X body tb)
  (hs: ∀x,i_ iter X.env x=pure x:=by intro _; rfl):PS X (.For tg iter body [] pos) (LD wi g tb):=by
 intro pins s σ H D I h
 refine wpAny_For (eN (hi pins s σ H _ I h) fun v s1 h1=>eN h1 fun itv s2 h2=> ?_) hs
 obtain⟨it,fp,tn,J,H2,e,I2,T,st2,f2,W,⟨m0,w0⟩,turn⟩:=h2
 subst e
 have stat: ∀{H':Hp},(∀b∈fp,H' b=none)-> ∀b∈fp,jF X pins H' b:=fun hn b hb=>⟨hn b hb,(f2 b hb).2⟩
 refine codeAny_forLoop_any (fun n s'=> ∃i σ' H',Inv X pins σ' H' s'/\tn i s'.heap/\(∀b∈fp,H' b=none)/\W i n σ' H') ?_ m0 ⟨0,σ,H2,I2,st2,fun b hb=>(f2 b hb).1,w0⟩
 rintro n s3 ⟨i,σ3,H3,I3,st3,fr3,w3⟩
 rcases turn i n σ3 H3 w3 with⟨stop,qn⟩ | ⟨go,N,hN,step⟩
 ·refine iB hp (eN (T.done X rfl rfl rfl hc i pins s3 σ3 H3 X.xe I3 (stat fr3) st3 stop) fun r s4 ⟨hr,I4⟩=> ?_)
  subst hr
  exact nM ⟨σ3,H3,I4,qn⟩
 ·refine iB hp (eN (T.item X rfl rfl rfl hc i pins s3 σ3 H3 X.xe I3 (stat fr3) st3 go) fun r s4 ⟨u,hr,h4⟩=> ?_)
  subst hr
  refine iB hp (eN h4 fun _ s5 ⟨x,H5,I5,r5,y5,st5,fr5⟩=> ?_)
  have I5':=I5.pinned (stat fr5) (T.obj _ _ st5)
  refine iB hp (eN (hg _ s5 σ3 H5 x u _ I5' r5 (step x H5 y5)) fun _ s6 ⟨σ6,H6,I6,q6⟩=> ?_)
  refine iB hp (eN (hb _ s6 σ6 H6 _ I6 q6) fun f s7 q7=> ?_)
  have again: ∀{σ7:St} {H7:Hp},Inv X (pins ++ vU fp s5.heap) σ7 H7 s7->N σ7 H7-> ∃m,m < n/\ ∃i σ' H',Inv X pins σ' H' s7/\tn i s7.heap/\(∀b∈fp,H' b=none)/\W i m σ' H':=fun{σ7 H7} I7 n7=>by
   obtain⟨m',hm,w7⟩:=hN σ7 H7 n7
   refine⟨m',hm,i+1,σ7,H7,I7.unpinned,T.keep _ _ _ st5 fun b hb o e=>(I7.pin (b,o) (aT _ (aT _ (gJ hb e)))).1,fun b hb=> ?_,w7⟩
   obtain⟨o,e,d⟩:=T.obj _ _ st5 b hb
   exact(I7.pin (b,o) (aT _ (aT _ (gJ hb e)))).2.1
  cases f with
  | next=>obtain⟨σ7,H7,I7,n7⟩:=q7; exact again I7 n7
  | cont=>obtain⟨σ7,H7,I7,n7⟩:=q7; exact again I7 n7
  | brk=>obtain⟨σ7,H7,I7,q7⟩:=q7; exact⟨σ7,H7,I7.unpinned,q7⟩
  | ret v=>obtain⟨x7,σ7,H7,I7,r7,q7⟩:=q7; exact⟨x7,σ7,H7,I7.unpinned,r7,q7⟩
end
end L2
namespace L2
open PySem PySem.Spec PyProof.Rows
abbrev R2:=V->V->Hp->VK->Prop
def nX(X:Cx)(f:Value->Value->Sem Value)(r:R2):Prop:=
 ∀(pins:List (Addr×Obj)) (s:ah) (σ:St) (H:Hp) (x y:V) (v u:Value) (Q:VK),Inv X pins σ H s->RelV x v->RelV y u->r x y H Q->
  wpAny (model X.prog X.w) X.A (f v u) (EP X pins σ Q) X.xe s
def L7(X:Cx)(f:Value->Sem Value)(r:V->Hp->VK->Prop):Prop:=
 ∀(pins:List (Addr×Obj)) (s:ah) (σ:St) (H:Hp) (x:V) (v:Value) (Q:VK),Inv X pins σ H s->RelV x v->r x H Q->
  wpAny (model X.prog X.w) X.A (f v) (EP X pins σ Q) X.xe s
def gK(X:Cx)(f:Value)(r:List V->Hp->VK->Prop):Prop:=
 ∀(pins:List (Addr×Obj)) (s:ah) (σ:St) (H:Hp) (xs:List V) (us:List Value) (Q:VK),Inv X pins σ H s->Vals xs us->r xs H Q->
  wpAny (model X.prog X.w) X.A (call f us) (EP X pins σ Q) X.xe s
def Lr(r:R2)(ta tb:TE):TE:=fun σ H Q=>ta σ H fun x H1=>tb σ H1 fun y H2=>r x y H2 Q
def NF(r:V->Hp->VK->Prop)(ta:TE):TE:=fun σ H Q=>ta σ H fun x H1=>r x H1 Q
def rI(C:Int->Int->Prop)(g:Int->Int->V):R2:=fun x y H Q=> ∃i j,x= .int i/\y= .int j/\C i j/\Q (g i j) H
def Hu(g:Int->Int->V):R2:=fun x y H Q=> ∃i j,x= .int i/\y= .int j/\Q (g i j) H
def rU(g:Int->V):V->Hp->VK->Prop:=fun x H Q=> ∃i,x= .int i/\Q (g i) H
section
variable {X:Cx}{a b c:Expr}{ta tb tc:TE}{pos:Pos}
theorem JE(ha:PE X a ta)(hb:PE X b tb){pins:List (Addr×Obj)}{s:ah}{σ:St}{H:Hp}{R:V->V->Hp->Prop}(I:Inv X pins σ H s)
  (h:ta σ H fun x H1=>tb σ H1 fun y H2=>R x y H2){Q:Value->ah->Prop}{f:Value->Value->Sem Value}
  (hf: ∀v u s2 x y H2,Inv X pins σ H2 s2->RelV x v->RelV y u->R x y H2->wpAny (model X.prog X.w) X.A (f v u) Q X.xe s2):
  wpAny (model X.prog X.w) X.A (eval a X.env) (fun v s₁=>wpAny (model X.prog X.w) X.A (eval b X.env) (fun u s₂=>wpAny (model X.prog X.w) X.A (f v u) Q X.xe s₂) X.xe s₁) X.xe s:=by
 refine eN (ha pins s σ H _ I h) fun v s1 ⟨x,H1,I1,r1,q1⟩=> ?_
 refine eN (hb pins s1 σ H1 _ I1 q1) fun u s2 ⟨y,H2,I2,r2,q2⟩=> ?_
 exact hf v u s2 x y H2 I2 r1 r2 q2
theorem DP{op:Operator}{r:R2}(ho:nX X (jG op) r)(ha:PE X a ta)(hb:PE X b tb):PE X (.BinOp a op b pos) (Lr r ta tb):=by
 intro pins s σ H Q I h
 exact wpAny_BinOp (JE ha hb I h fun v u s2 x y H2 I2 rx ry q=>ho pins s2 σ H2 x y v u Q I2 rx ry q)
theorem Ll{op:UnaryOp}{r:V->Hp->VK->Prop}(ho:L7 X (unaryOp op) r)(ha:PE X a ta):PE X (.UnaryOp op a pos) (NF r ta):=by
 intro pins s σ H Q I h
 exact UnaryOp_ (eN (ha pins s σ H _ I h) fun v s1 ⟨x,H1,I1,r1,q1⟩=>ho pins s1 σ H1 x v Q I1 r1 q1)
theorem Me{f:Value->Value->Sem Value}{C:Int->Int->Prop}{g:Int->Int->Int}
  (rule: ∀(i j:Int) (t u:Tok) (s:ah) (Q:Value->ah->Prop) (E:Value->ah->Prop),C i j->Q (.int (g i j) s.toks) {s with toks:=s.toks+1}->wpAny (model X.prog X.w) X.A (f (.int i t) (.int j u)) Q E s):
  nX X f (rI C fun i j=> .int (g i j)):=by
 intro pins s σ H x y v u Q I rx ry h
 obtain⟨i,j,rfl,rfl,hc,q⟩:=h
 obtain⟨t,rfl⟩:=rx
 obtain⟨t',rfl⟩:=ry
 exact rule i j t t' s _ _ hc ⟨.int (g i j),H,I.tok _,⟨_,rfl⟩,q⟩
theorem Lg{f:Value->Value->Sem Value}{g:Int->Int->Int}
  (rule: ∀(i j:Int) (t u:Tok) (s:ah) (Q:Value->ah->Prop) (E:Value->ah->Prop),Q (.int (g i j) s.toks) {s with toks:=s.toks+1}->wpAny (model X.prog X.w) X.A (f (.int i t) (.int j u)) Q E s):
  nX X f (Hu fun i j=> .int (g i j)):=by
 intro pins s σ H x y v u Q I rx ry h
 obtain⟨i,j,rfl,rfl,q⟩:=h
 obtain⟨t,rfl⟩:=rx
 obtain⟨t',rfl⟩:=ry
 exact rule i j t t' s _ _ ⟨.int (g i j),H,I.tok _,⟨_,rfl⟩,q⟩
theorem HA{f:Value->Value->Sem Value}{g:Int->Int->Bool}
  (rule: ∀(i j:Int) (t u:Tok) (s:ah) (Q:Value->ah->Prop) (E:Value->ah->Prop),Q (.bool (g i j)) s->wpAny (model X.prog X.w) X.A (f (.int i t) (.int j u)) Q E s):
  nX X f (Hu fun i j=> .bl (g i j)):=by
 intro pins s σ H x y v u Q I rx ry h
 obtain⟨i,j,rfl,rfl,q⟩:=h
 obtain⟨t,rfl⟩:=rx
 obtain⟨t',rfl⟩:=ry
 exact rule i j t t' s _ _ ⟨.bl (g i j),H,I,rfl,q⟩
def K2(i j:Int):Prop:=0 < j/\j < 1073741824
def Ha(i j:Int):Prop:=(-(2 ^ 64) < i/\i < 2 ^ 64)\/(-(2 ^ 64) < j/\j < 2 ^ 64)
theorem Ha.ok{i j:Int}(h:Ha i j):IntMulOk i j:=by
 rcases h with⟨h1,h2⟩ | ⟨h1,h2⟩
 ·exact .of_left (intBits_le_64 h1 h2)
 ·exact .of_right (intBits_le_64 h1 h2)
theorem JJ:nX X (jG .Add) (Hu fun i j=> .int (i+j)):=Lg fun _ _ _ _ _ _ _ q=>add_int q
theorem Jo:nX X (jG .Sub) (Hu fun i j=> .int (i - j)):=Lg fun _ _ _ _ _ _ _ q=>sub_int q
theorem JC:nX X (jG .Mult) (rI Ha fun i j=> .int (i * j)):=Me fun _ _ _ _ _ _ _ hc q=>mul_int q hc.ok
theorem GV:nX X (jG .FloorDiv) (rI K2 fun i j=> .int (i / j)):=Me fun i j _ _ _ _ _ hc q=>by
 have h1:(0:Int) < j:=hc.1
 have h2:j < 1073741824:=hc.2
 exact floordiv_int (by omega) (by rw [Int.fdiv_eq_ediv_of_nonneg i (by omega)]; exact q) (.inl (PyProof.noPylong_small (by omega)))
theorem Kb:nX X (jG .Mod) (rI (fun _ j=>0 < j) fun i j=> .int (i % j)):=Me fun i j _ _ _ _ _ hc q=>by
 have h1:(0:Int) < j:=hc
 exact mod_int' (by omega) (by rw [Int.fmod_eq_emod_of_nonneg i (by omega)]; exact q)
theorem NB{f:Value->Sem Value}{g:Int->Int}
  (rule: ∀(i:Int) (t:Tok) (s:ah) (Q:Value->ah->Prop) (E:Value->ah->Prop),Q (.int (g i) s.toks) {s with toks:=s.toks+1}->wpAny (model X.prog X.w) X.A (f (.int i t)) Q E s):
  L7 X f (rU fun i=> .int (g i)):=by
 intro pins s σ H x v Q I rx h
 obtain⟨i,rfl,q⟩:=h
 obtain⟨t,rfl⟩:=rx
 exact rule i t s _ _ ⟨.int (g i),H,I.tok _,⟨_,rfl⟩,q⟩
theorem Js:L7 X (unaryOp .USub) (rU fun i=> .int (-i)):=NB fun _ _ _ _ _ q=>neg_int q
end
def KW:V->V->Bool
 | .non, .non=>true | .non, .int _=>true | .int _, .non=>true | .non, .bl _=>true | .bl _, .non=>true | .non, .str _=>true | .str _, .non=>true
 | .int _, .int _=>true | .bl _, .bl _=>true | .str _, .str _=>true | .byt _, .byt _=>true
 | .int _, .str _=>true | .str _, .int _=>true | .bl _, .str _=>true | .str _, .bl _=>true
 | _,_=>false
def Nz:R2:=fun x y H Q=>KW x y=true/\Q (.bl (decide (x=y))) H
def NH:R2:=fun x y H Q=>KW x y=true/\Q (.bl (!decide (x=y))) H
theorem A2{i j:Int}:decide (V.int i=V.int j)=(i==j):=by
 rw [nO]
 simp
theorem Dl{i j:Bool}:decide (V.bl i=V.bl j)=(i==j):=by
 rw [nO]
 simp
theorem AH{i j:Str}:decide (V.str i=V.str j)=(i==j):=by
 rw [nO]
 simp
theorem Ae{i j:Array UInt8}:decide (V.byt i=V.byt j)=(i.toList==j.toList):=by
 rw [nO]
 cases i
 cases j
 simp
section
variable {X:Cx}{a b c:Expr}{ta tb tc:TE}{pos:Pos}
theorem cV{pins:List (Addr×Obj)}{σ:St}{H:Hp}{s:ah}{Q:VK}{k k':Bool}(I:Inv X pins σ H s)(q:Q (.bl k) H)(e:k=k'):EP X pins σ Q (.bool k') s:=by
 subst e
 exact⟨.bl k,H,I,rfl,q⟩
theorem Ks:nX X (cC .Eq) Nz:=by
 intro pins s σ H x y v u Q I rx ry h
 obtain⟨hs,q⟩:=h
 cases x with
 | non=>
  cases rx
  cases y with
  | non=>cases ry; exact PySem.EqNone.eq_none_none (cV I q (by simp))
  | bl j=>cases ry; exact PySem.EqNone.eq_none_bool (cV I q (by simp))
  | int j=>obtain⟨t',rfl⟩:=ry; exact PySem.EqNone.eq_none_int (cV I q (by simp))
  | str j=>obtain⟨t',rfl⟩:=ry; exact PySem.EqNone.eq_none_str (cV I q (by simp))
  | _=>exact absurd (show false=true from hs) aA
 | bl i=>
  cases rx
  cases y with
  | non=>cases ry; exact PySem.EqNone.eq_bool_none (cV I q (by simp))
  | bl j=>cases ry; exact eq_bool (cV I q Dl)
  | str j=>obtain⟨t',rfl⟩:=ry; exact PySem.EqMixed.eq_bool_str (cV I q (by simp))
  | _=>exact absurd (show false=true from hs) aA
 | int i=>
  obtain⟨t,rfl⟩:=rx
  cases y with
  | non=>cases ry; exact PySem.EqNone.eq_int_none (cV I q (by simp))
  | int j=>obtain⟨t',rfl⟩:=ry; exact eq_int (cV I q A2)
  | str j=>obtain⟨t',rfl⟩:=ry; exact PySem.EqMixed.eq_int_str (cV I q (by simp))
  | _=>exact absurd (show false=true from hs) aA
 | str i=>
  obtain⟨t,rfl⟩:=rx
  cases y with
  | non=>cases ry; exact PySem.EqNone.eq_str_none (cV I q (by simp))
  | bl j=>cases ry; exact PySem.EqMixed.eq_str_bool (cV I q (by simp))
  | int j=>obtain⟨t',rfl⟩:=ry; exact PySem.EqMixed.eq_str_int (cV I q (by simp))
  | str j=>obtain⟨t',rfl⟩:=ry; exact eq_str (cV I q AH)
  | _=>exact absurd (show false=true from hs) aA
 | byt i=>
  obtain⟨t,rfl⟩:=rx
  cases y with
  | byt j=>obtain⟨t',rfl⟩:=ry; exact PySem.W.eq_bytes (cV I q Ae)
  | _=>exact absurd (show false=true from hs) aA
 | _=>cases y <;> exact absurd (show false=true from hs) aA
theorem Kr:nX X (cC .NotEq) NH:=by
 intro pins s σ H x y v u Q I rx ry h
 obtain⟨hs,q⟩:=h
 cases x with
 | non=>
  cases rx
  cases y with
  | non=>cases ry; exact PySem.EqNone.ne_none_none (cV I q (by simp))
  | bl j=>cases ry; exact PySem.EqNone.ne_none_bool (cV I q (by simp))
  | int j=>obtain⟨t',rfl⟩:=ry; exact PySem.EqNone.ne_none_int (cV I q (by simp))
  | str j=>obtain⟨t',rfl⟩:=ry; exact PySem.EqNone.ne_none_str (cV I q (by simp))
  | _=>exact absurd (show false=true from hs) aA
 | bl i=>
  cases rx
  cases y with
  | non=>cases ry; exact PySem.EqNone.ne_bool_none (cV I q (by simp))
  | bl j=>cases ry; exact ne_bool (cV I q (congrArg not Dl))
  | str j=>obtain⟨t',rfl⟩:=ry; exact PySem.EqMixed.ne_bool_str (cV I q (by simp))
  | _=>exact absurd (show false=true from hs) aA
 | int i=>
  obtain⟨t,rfl⟩:=rx
  cases y with
  | non=>cases ry; exact PySem.EqNone.ne_int_none (cV I q (by simp))
  | int j=>obtain⟨t',rfl⟩:=ry; exact ne_int (cV I q (congrArg not A2))
  | str j=>obtain⟨t',rfl⟩:=ry; exact PySem.EqMixed.ne_int_str (cV I q (by simp))
  | _=>exact absurd (show false=true from hs) aA
 | str i=>
  obtain⟨t,rfl⟩:=rx
  cases y with
  | non=>cases ry; exact PySem.EqNone.ne_str_none (cV I q (by simp))
  | bl j=>cases ry; exact PySem.EqMixed.ne_str_bool (cV I q (by simp))
  | int j=>obtain⟨t',rfl⟩:=ry; exact PySem.EqMixed.ne_str_int (cV I q (by simp))
  | str j=>obtain⟨t',rfl⟩:=ry; exact ne_str (cV I q (congrArg not AH))
  | _=>exact absurd (show false=true from hs) aA
 | byt i=>
  obtain⟨t,rfl⟩:=rx
  cases y with
  | byt j=>obtain⟨t',rfl⟩:=ry; exact PySem.W.ne_bytes (cV I q (congrArg not Ae))
  | _=>exact absurd (show false=true from hs) aA
 | _=>cases y <;> exact absurd (show false=true from hs) aA
theorem Le:nX X (cC .Lt) (Hu fun i j=> .bl (decide (i < j))):=HA fun _ _ _ _ _ _ _ q=>lt_int q
theorem KD:nX X (cC .LtE) (Hu fun i j=> .bl (decide (i<=j))):=HA fun _ _ _ _ _ _ _ q=>le_int q
theorem Kw:nX X (cC .Gt) (Hu fun i j=> .bl (decide (j < i))):=HA fun _ _ _ _ _ _ _ q=>gt_int q
theorem Ld:nX X (cC .GtE) (Hu fun i j=> .bl (decide (j<=i))):=HA fun _ _ _ _ _ _ _ q=>ge_int q
theorem Hr:nX X (cC .IsNot) (fun x y H Q=>y= .non/\Q (.bl (!decide (x= .non))) H):=by
 intro pins s σ H x y v u Q I rx ry h
 obtain⟨rfl,q⟩:=h
 cases ry
 refine isnot_none_gen (cV I q ?_)
 cases x <;> first
  | (cases rx; rfl)
  | (obtain⟨t,rfl⟩:=rx; rfl)
theorem wa(b:Expr){op:CmpOp}(h:op≠ .In:=by decide)(h2:op≠ .NotIn:=by decide):fE op b=false:=by
 have e1:(op==CmpOp.In)=false:=by cases op <;> first | rfl | exact absurd rfl h
 have e2:(op==CmpOp.NotIn)=false:=by cases op <;> first | rfl | exact absurd rfl h2
 cases b <;> simp [fE,e1,e2]
theorem Hi{op:CmpOp}{r:R2}(ho:nX X (cC op) r)(ha:PE X a ta)(hb:PE X b tb)(hm:fE op b=false):PE X (.Compare a [op] [b] pos) (Lr r ta tb):=by
 intro pins s σ H Q I h
 exact wpAny_Compare1 (JE ha hb I h fun v u s2 x y H2 I2 rx ry q=>ho pins s2 σ H2 x y v u Q I2 rx ry q) hm
def Ir(t:TE):TT:=fun σ H Q=>t σ H fun x H'=> ∃k,x= .bl k/\Q k H'
theorem As{op:CmpOp}{r:R2}(ho:nX X (cC op) r)(ha:PE X a ta)(hb:PE X b tb)(hm:fE op b=false):PT X (.Compare a [op] [b] pos) (Ir (Lr r ta tb)):=by
 intro pins s σ H Q I h
 refine wpAny_isTrue_Compare1 (eN (ha pins s σ H _ I h) fun v s1 ⟨x,H1,I1,r1,q1⟩=>eN (hb pins s1 σ H1 _ I1 q1) fun u s2 ⟨y,H2,I2,r2,q2⟩=>
  eN (ho pins s2 σ H2 x y v u _ I2 r1 r2 q2) fun c s3 ⟨z,H3,I3,r3,k,e,q3⟩=> ?_) hm
 subst e
 cases r3
 exact ft ⟨H3,I3,q3⟩
def Fv(r r':R2)(ta tb tc:TE):TE:=fun σ H Q=>ta σ H fun x H1=>tb σ H1 fun y H2=>r x y H2 fun z H3=> ∃k,z= .bl k/\
 (if k=true then tc σ H3 fun w' H4=>r' y w' H4 Q else Q (.bl false) H3)
theorem Et{op op':CmpOp}{r r':R2}(ho:nX X (cC op) r)(ho':nX X (cC op') r')(ha:PE X a ta)(hb:PE X b tb)(hc:PE X c tc)
  (hm:lastMarks [op,op'] [b,c]=false:=by with_unfolding_all rfl):PE X (.Compare a [op,op'] [b,c] pos) (Fv r r' ta tb tc):=by
 intro pins s σ H Q I h
 refine Compare_chain (eN (ha pins s σ H _ I h) fun v s1 ⟨x,H1,I1,r1,q1⟩=>chain_link (eN (hb pins s1 σ H1 _ I1 q1) fun u s2 ⟨y,H2,I2,r2,q2⟩=>
  eN (ho pins s2 σ H2 x y v u _ I2 r1 r2 q2) fun d s3 ⟨z,H3,I3,r3,k,e,q3⟩=> ?_)) hm
 subst e
 cases r3
 refine ft ?_
 cases k with
 | false=>exact ite_ff ⟨.bl false,H3,I3,rfl,q3⟩
 | true=>exact ite_tt (chain_last (eN (hc pins s3 σ H3 _ I3 q3) fun w' s4 ⟨z',H4,I4,r4,q4⟩=>ho' pins s4 σ H4 y z' u w' Q I4 r2 r4 q4))
theorem CU{op op':CmpOp}{r r':R2}(ho:nX X (cC op) r)(ho':nX X (cC op') r')(ha:PE X a ta)(hb:PE X b tb)(hc:PE X c tc)
  (hm:lastMarks [op,op'] [b,c]=false:=by with_unfolding_all rfl):PT X (.Compare a [op,op'] [b,c] pos) (Ir (Fv r r' ta tb tc)):=by
 intro pins s σ H Q I h
 refine isTrue_chain (eN (ha pins s σ H _ I h) fun v s1 ⟨x,H1,I1,r1,q1⟩=>test_link (eN (hb pins s1 σ H1 _ I1 q1) fun u s2 ⟨y,H2,I2,r2,q2⟩=>
  eN (ho pins s2 σ H2 x y v u _ I2 r1 r2 q2) fun d s3 ⟨z,H3,I3,r3,k,e,q3⟩=> ?_)) hm
 subst e
 cases r3
 refine ft ?_
 cases k with
 | false=>
  obtain⟨k',e',q'⟩:=q3
  cases e'
  exact ite_ff ⟨H3,I3,q'⟩
 | true=>
  refine ite_tt (test_last (eN (hc pins s3 σ H3 _ I3 q3) fun w' s4 ⟨z',H4,I4,r4,q4⟩=>eN (ho' pins s4 σ H4 y z' u w' _ I4 r2 r4 q4) fun d' s5 ⟨z2,H5,I5,r5,k2,e2,q5⟩=> ?_))
  subst e2
  cases r5
  exact ft ⟨H5,I5,q5⟩
theorem vC:(sizeLine:Nat) < 2 ^ 63:=by rw [eO]; decide
theorem vals1{x:V}{us:List Value}(r:Vals [x] us): ∃u,us= [u]/\RelV x u:=by
 cases r with
 | cons r1 r2=>cases r2; exact⟨_,rfl,r1⟩
theorem vals2{x y:V}{us:List Value}(r:Vals [x,y] us): ∃u w',us= [u,w']/\RelV x u/\RelV y w':=by
 cases r with
 | cons r1 r2=>
  cases r2 with
  | cons r3 r4=>cases r4; exact⟨_,_,rfl,r1,r3⟩
theorem Bx(hc:X.calm=true):gK X (.builtin "min") (fun xs H Q=> ∃i j,xs= [.int i, .int j]/\Q (.int (if j < i then j else i)) H):=by
 intro pins s σ H xs us Q I r h
 obtain⟨i,j,rfl,q⟩:=h
 obtain⟨u,w',rfl,⟨t,rfl⟩,⟨t',rfl⟩⟩:=vals2 r
 refine min_two_ints (I.ok.hd hc) fun h' tk k=>⟨_,H,I.kept k, ?_,q⟩
 by_cases hj:j < i
 ·rw [if_pos hj,if_pos hj]; exact⟨_,rfl⟩
 ·rw [if_neg hj,if_neg hj]; exact⟨_,rfl⟩
end
end L2
namespace L2
open PySem PySem.Spec PyProof.Rows
structure zf(h:Heap)(x dx C:Addr)(mA:Str->Option Value):Prop where
 obj:h.get? x=some (gA C dx)
 ns:h.Ns1 dx mA
 ne:dx≠x
theorem B7{h:Heap}{dx:Addr}{mA:Str->Option Value}(n:h.Ns1 dx mA): ∃od,h.get? dx=some od/\ ∀name,wK name od=some (mA name):=by
 obtain⟨o,es,ep,ho,hd,hk,_,hm⟩:=n
 refine⟨o,ho,fun name=> ?_⟩
 have e:=hm name
 unfold nsFind findBy at e
 rw [<-Array.find?_toList]at e
 unfold wK
 rw [hd]
 dsimp only
 split
 ·rename_i y q
  rw [q]at e
  exact congrArg some e
 ·rename_i q
  rw [q]at e
  have a:es.toList.any (·.refKey)=false:=by
   rw [List.any_eq_false]
   intro y hy
   obtain⟨z,t,hkey⟩:=hk y (Array.mem_toList_iff.mp hy)
   simp [DictEntry.refKey,hkey]
  have a': ¬es.toList.any (·.refKey)=true:=by rw [a]; exact aA
  rw [if_neg a']
  exact congrArg some e
theorem zf.look{h:Heap}{x dx C:Addr}{mA:Str->Option Value}(I:zf h x dx C mA): ∃od,PySem.W.InstAt h x (gA C dx) C (some od)/\ ∀name,wK name od=some (mA name):=
 let⟨od,ho,hl⟩:=B7 I.ns
 ⟨od,⟨I.obj,rfl,rfl,ho⟩,hl⟩
section
variable {prog:aq}{w:World}{A:bh}{E:Value->ah->Prop}{s:ah}{K:aL}{x dx C f:Addr}{mA:Str->Option Value}{name:Str}{v:Value}
theorem get_map{expr:Bool}{Q:Value->ah->Prop}(X:K.In s.heap)(I:zf s.heap x dx C mA)(hg:my K C name=true)(hh:qP K C=true)
  (ha:bj K (.ref C) name=some none)(hv:mA name=some v)(hv':PySem.W.handedIn v=true)(h:Q v {s with toks:=s.toks+1}):
  wpAny (model prog w) A (getAttr (.ref x) name expr) Q E s:=by
 obtain⟨od,J,hl⟩:=I.look
 exact PySem.W.get_value X J (CF hg).1 (PySem.W.findObj_own hh ha rfl (by rw [hl,hv])) hv' h
theorem E1{pl:Sem Bool}{Q:Value×List Value->ah->Prop}(X:K.In s.heap)(I:zf s.heap x dx C mA)(hg:my K C name=true)
  (hf:bj K (.ref C) name=some (some (.ref f)))(ht:qQ K (.ref f)=true)(hv:mA name=none)(h:Q (.ref f, [.ref x]) s):
  wpAny (model prog w) A (getMethod (.ref x) name pl) Q E s:=by
 obtain⟨od,J,hl⟩:=I.look
 exact PySem.W.method_fn X J (CF hg).1 (CF hg).2 hf (beq_iff_eq.mp ht) (by show(wK name od).map (·.isSome)=some false; rw [hl,hv]; rfl) h
theorem HG{ns:List Str}{Q:Unit->ah->Prop}(X:K.In s.heap)(I:zf s.heap x dx C mA)
  (hs:bj K (.ref C) "__setattr__"=some (some (.builtin "object.__setattr__")))(hp:Gb K C=true)(ht:IK K C name=some none)(hh:qP K C=true)
  (hw:Lm mA ns)(hsz:ns.length<=sizeLine)
  (h: ∀h',zf h' x dx C (fun y=>if y=name then some v else mA y)->bH dx s.heap h'->Q () {s with heap:=h',toks:=s.toks+2}):
  wpAny (model prog w) A (setAttr (.ref x) name v) Q E s:=by
 obtain⟨od,J,hl⟩:=I.look
 refine PySem.W.set_plain X J hs (PySem.W.osa_open (s:={s with toks:=s.toks+1}) (r:=none) X J hp ht fun b=> ?_)
 obtain⟨cd,hc,hd'⟩:=PySem.W.any_some hh
 have hx:s.heap.get? x=some ⟨.ref C,some dx, .plain, #[]⟩:=I.obj
 refine aa (af (aa (aa (wpAny_loadPart hx (aa (PySem.W.Looks.here (s:={s with toks:=s.toks+1}) (PySem.W.looks_clsIn X hc) ?_))))))
 rw [hd']
 refine af (a:=some dx) (aa (af (aa ?_)))
 refine wpAny_nsSet1 (s:={s with toks:=s.toks+1}) I.ns fun h' hn2 hs2=> ?_
 obtain⟨oD,esD,epD,hoD,hdD,hcD⟩:=hn2.count (PySem.Within.cons name v hw)
 refine aa (wpAny_lookBehind hoD (by rw [hdD]; exact pastItsLine_dict (bu hcD (by rw [aH]; omega))) ?_)
 exact af (h _ ⟨(hs2.2 _ (qN I.ne)).trans I.obj,hn2,I.ne⟩ hs2)
theorem Di{R:Result->ah->Prop}{vs:List Value}{kw:List (Str×Value)}(X:K.In s.heap)(hm:IL K C=true)
  (hi:bj K (.ref C) "__init__"=some (some (.ref f)))(hf:PySem.W.typeIn K (.ref f)=some (.type "function"))
  (h:fu (model prog w) (A.under (.builtin "type.__call__" ⟨.ref C::vs,kw⟩)) (.call (.ref f) ⟨.ref (s.heap.objs.size+1)::vs,kw⟩) (PySem.W.InitBack (s.heap.objs.size+1) R)
   {s with heap:=(s.heap.push eA).push (gA C s.heap.objs.size)}):
  fu (model prog w) A (.call (.ref C) ⟨vs,kw⟩) R s:=by
 obtain⟨hh,g,d,t,os⟩:=s
 exact PySem.W.make_core (PySem.W.makes_of X hm) (PySem.W.looks_findIn X hi) (fun self=>PySem.W.bind_fn X self hf) (.inl rfl) h
end
def fY(f:Str)(v:V):List (Str×V)->List (Str×V)
 | []=> [(f,v)]
 | (g,x)::r=>if g=f then(g,v)::r else(g,x)::fY f v r
theorem qt(f g:Str)(v:V): ∀fs:List (Str×V),(fY f v fs).lookup g=if g=f then some v else fs.lookup g
 | []=>by
  show lK g [(f,v)]=_
  by_cases h:g=f
  ·have hb:(g==f)=true:=beq_iff_eq.mpr h
   simp only [lK,hb,if_pos h]
  ·have hb:(g==f)=false:=beq_eq_false_iff_ne.mpr h
   simp only [lK,hb,if_neg h]
 | (k,x)::r=>by
  have ih:=qt f g v r
  rw [show fY f v ((k,x)::r)=(if k=f then(k,v)::r else(k,x)::fY f v r)from rfl]
  by_cases hk:k=f
  ·rw [if_pos hk]
   by_cases h:g=k
   ·have hb:(g==k)=true:=beq_iff_eq.mpr h
    simp only [lK,hb,if_pos (h.trans hk)]
   ·have hb:(g==k)=false:=beq_eq_false_iff_ne.mpr h
    simp only [lK,hb,if_neg (fun e:g=f=>h (e.trans hk.symm))]
  ·rw [if_neg hk]
   by_cases h:g=k
   ·have hb:(g==k)=true:=beq_iff_eq.mpr h
    simp only [lK,hb,if_neg (fun e:g=f=>hk (h.symm.trans e))]
   ·have hb:(g==k)=false:=beq_eq_false_iff_ne.mpr h
    simp only [lK,hb]
    exact ih
theorem p7(f:Str)(v:V): ∀fs:List (Str×V),f∈(fY f v fs).map (·.1)/\ ∀g,g∈fs.map (·.1)->g∈(fY f v fs).map (·.1)
 | []=>⟨by simp [fY],fun g h=>by simp at h⟩
 | (k,x)::r=>by
  obtain⟨i1,i2⟩:=p7 f v r
  rw [show fY f v ((k,x)::r)=(if k=f then(k,v)::r else(k,x)::fY f v r)from rfl]
  by_cases hk:k=f
  ·rw [if_pos hk]
   subst hk
   exact⟨by simp,fun g h=>by simpa using h⟩
  ·rw [if_neg hk]
   refine⟨?_,fun g h=> ?_⟩
   ·rw [bf]
    exact cb _ i1
   ·rw [bf]at h ⊢
    rcases aK.mp h with e | e
    ·exact aK.mpr (.inl e)
    ·exact cb _ (i2 g e)
theorem jm(f:Str)(v:V): ∀fs:List (Str×V),(fY f v fs).length<=fs.length+1
 | []=>by simp [fY]
 | (k,x)::r=>by
  have ih:=jm f v r
  rw [show fY f v ((k,x)::r)=(if k=f then(k,v)::r else(k,x)::fY f v r)from rfl]
  by_cases hk:k=f
  ·rw [if_pos hk,aH,aH]; omega
  ·rw [if_neg hk,aH,aH]; omega
theorem uz.some_of{v:V}{o:Option Value}(r:uz (some v) o): ∃u,o=some u/\RelV v u:=by
 cases o with
 | none=>exact(show False from r).elim
 | some u=>exact⟨u,rfl,r⟩
theorem uz.none_of{o:Option Value}(r:uz none o):o=none:=by
 cases o with
 | none=>rfl
 | some u=>exact(show False from r).elim
theorem Br{v:V}{u:Value}(r:RelV v u):PySem.W.handedIn u=true:=by
 cases v with
 | non=>cases (show u=aY from r); rfl
 | bl b=>cases (show u=fD b from r); rfl
 | int i=>obtain⟨t,e⟩:=(show ∃t,u=gD i t from r); cases e; rfl
 | str x=>obtain⟨t,e⟩:=(show ∃t,u=yW x t from r); cases e; rfl
 | byt b=>obtain⟨t,e⟩:=(show ∃t,u=Value.bytes b t from r); cases e; rfl
 | flt b=>obtain⟨t,e⟩:=(show ∃t,u=Value.float b t from r); cases e; rfl
 | ref a=>cases (show u=ak a from r); rfl
 | ty n=>cases (show u=cq n from r); rfl
section
variable {P:aq}{w:World}{H H':Hp}{h h':Heap}{a C dx:Addr}{fs fs':List (Str×V)}
theorem nA(dO:n_ P w H h)(e:H a=some (.ins C dx fs)): ∃mA,zf h a dx C mA/\(∀f,uz (fs.lookup f) (mA f))/\Lm mA (fs.map (·.1))/\fs.length<=1000/\H dx=some (.own a):=by
 obtain⟨d,z,ne,ob,mA,n,r,q⟩:=(show fC P w H h a (.ins C dx fs)from dO a _ e)
 exact⟨mA,⟨ob,n,ne⟩,r,q,z,d⟩
end
structure zo(K:aL)(C:Addr):Prop where
 pg:my K C Str.empty=true
 hd:qP K C=true
 po:Gb K C=true
 sa:bj K (.ref C) "__setattr__"=some (some (.builtin "object.__setattr__"))
theorem zo.get{K:aL}{C:Addr}(c:zo K C)(f:Str):my K C f=true:=c.pg
def i6(K:aL)(C:Addr)(f:Str):Prop:=bj K (.ref C) f=some none
theorem i6.taker{K:aL}{C:Addr}{f:Str}(n:i6 K C f):IK K C f=some none:=by
 unfold IK
 rw [show bj K (.ref C) f=some none from n]
 rfl
structure Meth(K:aL)(C:Addr)(m:Str)(f:Addr):Prop where
 at_:bj K (.ref C) m=some (some (.ref f))
 fn:qQ K (.ref f)=true
 kp:eY K (.ref f)=true
section
variable {X:Cx}{pins:List (Addr×Obj)}{σ:St}{H:Hp}{s:ah}{a C dx:Addr}{fs:List (Str×V)}{f:Str}{v:V}{A:bh}{E:Value->ah->Prop}
theorem zh{b:Bool}{Q:Value->ah->Prop}(I:Inv X pins σ H s)(e:H a=some (.ins C dx fs))(c:zo X.K C)(n:i6 X.K C f)(l:fs.lookup f=some v)
  (h: ∀u s',Inv X pins σ H s'->RelV v u->Q u s'):wpAny (model X.prog X.w) A (getAttr (.ref a) f b) Q E s:=by
 obtain⟨mA,O,r,_,_,_⟩:=nA I.dO e
 obtain⟨u,hu,ru⟩:=uz.some_of (v:=v) (o:=mA f) (by rw [<-l]; exact r f)
 exact get_map I.kIn O (c.get f) c.hd n hu (Br ru) (h u _ (I.tok _) ru)
theorem zi{m:Str}{g:Addr}{pl:Sem Bool}{Q:Value×List Value->ah->Prop}(I:Inv X pins σ H s)(e:H a=some (.ins C dx fs))(c:zo X.K C)(k:Meth X.K C m g)(l:fs.lookup m=none)
  (h:Q (.ref g, [.ref a]) s):wpAny (model X.prog X.w) A (getMethod (.ref a) m pl) Q E s:=by
 obtain⟨mA,O,r,_,_,_⟩:=nA I.dO e
 have hn:mA m=none:=uz.none_of (by rw [<-l]; exact r m)
 exact E1 I.kIn O (c.get m) k.at_ k.fn hn h
theorem zq{y:V}{u:Value}{Q:Unit->ah->Prop}(I:Inv X pins σ H s)(e:H a=some (.ins C dx fs))(c:zo X.K C)(n:i6 X.K C f)(hl:fs.length < 1000)(ry:RelV y u)
  (h: ∀s',Inv X pins σ (upd H a (.ins C dx (fY f y fs))) s'->Q () s'):wpAny (model X.prog X.w) A (setAttr (.ref a) f u) Q E s:=by
 obtain⟨mA,O,r,wi,_,ho⟩:=nA I.dO e
 have hz:(fs.map (·.1)).length<=sizeLine:=by rw [ae,eO]; omega
 refine HG I.kIn O c.sa c.po n.taker c.hd wi hz fun h' O' sb=>h _ ?_
 have hd: ∃o,h'.get? dx=some o:=let⟨o,_,_,e',_⟩:=O'.ns; ⟨o,e'⟩
 refine I.write (x:=a) (e:=dx) (by rw [e]; exact cN) (.inr ho) (fun b q hb z=>(sb.2 b hb).trans z) hd ?_
 refine⟨by rw [ck O.ne]; exact ho, ?_,O.ne,O'.obj,_,O'.ns,fun g=> ?_,fun g hg=> ?_⟩
 ·have:=jm f y fs; omega
 ·show uz ((fY f y fs).lookup g) (if g=f then some u else mA g)
  rw [qt]
  by_cases q:g=f
  ·rw [if_pos q,if_pos q]; exact ry
  ·rw [if_neg q,if_neg q]; exact r g
 ·by_cases q:g=f
  ·rw [q]; exact(p7 f y fs).1
  ·refine(p7 f y fs).2 g (wi g fun z=>hg ?_)
   show(if g=f then some u else mA g)=none
   rw [if_neg q]; exact z
theorem Inv.made(I:Inv X pins σ H s):Inv X pins σ (upd (upd H s.heap.objs.size (.own (s.heap.objs.size+1))) (s.heap.objs.size+1) (.ins C s.heap.objs.size []))
  {s with heap:=(s.heap.push eA).push (gA C s.heap.objs.size)}:=by
 have e1:(s.heap.push eA).get? s.heap.objs.size=some eA:=aw s.heap rfl
 have e2:((s.heap.push eA).push (gA C s.heap.objs.size)).get? (s.heap.objs.size+1)=some (gA C s.heap.objs.size):=by
  have:=aw (s.heap.push eA) (o:=gA C s.heap.objs.size) rfl
  rwa [cB]at this
 have e3:(s.heap.push eA).Ns s.heap.objs.size (fun _=>none):=⟨eA, #[],_,e1,rfl,(fun e he=>absurd he (by simp)),fun _=>rfl⟩
 have I1:=I.laid (a:=s.heap.objs.size) (o:= .own (s.heap.objs.size+1)) (h':=s.heap.push eA) (t':=s.toks) (fun b u q=>ag _ q) (ay _) ⟨_,e1⟩
 refine I1.laid (a:=s.heap.objs.size+1) (o:= .ins C s.heap.objs.size []) (t':=s.toks) (fun b u q=>ag _ q) (mV (cB _ _)) ?_
 have ne:s.heap.objs.size≠s.heap.objs.size+1:=aE (fU _)
 refine⟨by rw [ck ne,bC],bQ _,ne,e2,fun _=>none,(Heap.Ns1.of_empty e3).at fun o q=>ag _ q,fun _=>cN,fun y hy=>absurd rfl hy⟩
theorem Gp{prog:aq}{w:World}{env:Env}{e:Expr}{f:Str}{pos:Pos}{s:ah}{Q:Value->ah->Prop}(hb:jC e f env (eval e env)=eval e env)
  (h:wpAny (model prog w) A (eval e env) (fun o s₁=>wpAny (model prog w) A (getAttr o f true) Q E s₁) E s):wpAny (model prog w) A (eval (.Attribute e f pos) env) Q E s:=
 Attribute_any_ h (by rw [arm_eval_Attribute,hb])
end
def Mx(K:aL)(ta:TE)(f:Str):TE:=fun σ H Q=>ta σ H fun x H1=> ∃a C dx fs v,x= .ref a/\H1 a=some (.ins C dx fs)/\zo K C/\i6 K C f/\fs.lookup f=some v/\Q v H1
def LV(K:aL)(ta tv:TE)(f:Str):TS:=fun D σ H=>tv σ H fun y H1=>ta σ H1 fun x H2=> ∃a C dx fs,x= .ref a/\H2 a=some (.ins C dx fs)/\zo K C/\i6 K C f/\fs.length < 1000/\
 D.nx σ (upd H2 a (.ins C dx (fY f y fs)))
section
variable {X:Cx}{o e value:Expr}{f:Str}{pos pos' tpos:Pos}{ta tv:TE}
theorem Jh(he:PE X e ta)(hb:jC e f X.env (eval e X.env)=eval e X.env):PE X (.Attribute e f pos) (Mx X.K ta f):=by
 intro pins s σ H Q I h
 refine Gp hb (eN (he pins s σ H _ I h) fun u s1 ⟨x,H1,I1,rx,a,C,dx,fs,v,ex,ea,c,n,l,q⟩=> ?_)
 subst ex
 obtain rfl:u=ak a:=rx
 exact zh I1 ea c n l fun u' s2 I2 ru=>⟨v,H1,I2,ru,q⟩
theorem DY(ha:PE X o ta)(hv:PE X value tv)(hs:cQ value (some (.Attribute o f pos')) pos.line X.env=pure false):PS X (.Assign [.Attribute o f pos'] value pos) (LV X.K ta tv f):=by
 intro pins s σ H D I h
 refine plainObj_wpAny_Assign_Attribute (eN (hv pins s σ H _ I h) fun u s1 ⟨y,H1,I1,ry,q⟩=>eN (ha pins s1 σ H1 _ I1 q) fun ov s2 ⟨x,H2,I2,rx,a,C,dx,fs,ex,ea,c,n,l,q2⟩=> ?_) hs
 subst ex
 obtain rfl:ov=ak a:=rx
 exact zq I2 ea c n l ry fun s3 I3=>⟨σ,_,I3,q2⟩
end
section
variable {X:Cx}{pins:List (Addr×Obj)}{σ:St}{H:Hp}{s:ah}{A:bh}{E:Value->ah->Prop}{Q:Value->ah->Prop}{c:Value}{b:Bool}
inductive sC(K:aL)(H:Hp):V->Value->Prop where
 | non:sC K H .non (.type "NoneType")
 | bl (x:Bool):sC K H (.bl x) (.type "bool")
 | int (i:Int):sC K H (.int i) (.type "int")
 | str (x:Str):sC K H (.str x) (.type "str")
 | flt (x:UInt64):sC K H (.flt x) (.type "float")
 | lst {a:Addr} {xs:List V} (e:H a=some (.lst xs)):sC K H (.ref a) (.type "list")
 | frz {a:Addr} {o:Obj} {xs:List V} (e:H a=some (.frz o (.lst xs))):sC K H (.ref a) (.type "list")
 | tup {a:Addr} {xs:List V} (e:H a=some (.tup xs)):sC K H (.ref a) (.type "tuple")
 | dK {a:Addr} {kvs:List (Key×V)} (e:H a=some (.dK kvs)):sC K H (.ref a) (.type "dict")
 | dT {a:Addr} {kvs:List (List Key×V)} (e:H a=some (.dT kvs)):sC K H (.ref a) (.type "dict")
 | ins {a C dx:Addr} {fs:List (Str×V)} (e:H a=some (.ins C dx fs)) (cl:zo K C) (ha:bj K (.ref C) "__class__"=some (some (.builtin "object.__class__")))
   (hn:PySem.W.specialIn K (.builtin "object.__class__") "__get__"=some (some (.builtin "getset_descriptor.__get__"))) (htk:PySem.W.takesIn K (.builtin "object.__class__")=some true)
   (hm:dU K C (.type "object")=some true):sC K H (.ref a) (.ref C)
end
end L2
namespace L2
open PySem PySem.Spec PyProof.Rows
structure fq(k:Nat)(A:bh):Prop where
 hd:A.handled=none
 dp:A.depth+3 * k+5 < recursionLimit
 un:A.units+16 * k+200 < cLine
theorem fq.mono{j k:Nat}{A:bh}(r:fq k A)(h:j<=k):fq j A:=⟨r.hd,by have:=r.dp; omega,by have:=r.un; omega⟩
theorem fq.deeper{k:Nat}{A:bh}(r:fq (k+1) A)(env:Env):fq k (A.deeper env):=
 ⟨r.hd,by have:=r.dp; show A.depth+1+3 * k+5 < _; omega,by have:=r.un; show A.units+3+16 * k+200 < _; omega⟩
theorem zB{A:bh}{C:Addr}{us:List Value}{kw:List (Str×Value)}:(A.under (.builtin "type.__call__" ⟨.ref C::us,kw⟩)).depth=A.depth+1:=by
 first | rfl | simp [Around.under,Code.weight,Code.isCreation,Code.isGuard,Code.isCaller,Code.frames,Code.isFrame,guardIds]
theorem zA{A:bh}{C:Addr}{us:List Value}{kw:List (Str×Value)}:(A.under (.builtin "type.__call__" ⟨.ref C::us,kw⟩)).units=A.units+1:=by
 first | rfl | simp [Around.under,Code.cUnits,Code.frames,Code.isFrame]
theorem fq.make{k:Nat}{A:bh}(r:fq (k+1) A)(C:Addr)(us:List Value)(kw:List (Str×Value)):fq k (A.under (.builtin "type.__call__" ⟨.ref C::us,kw⟩)):=
 ⟨r.hd,by have:=r.dp; rw [zB]; omega,by have:=r.un; rw [zA]; omega⟩
theorem fq.depth{k:Nat}{A:bh}(r:fq k A):A.depth < recursionLimit:=by have:=r.dp; omega
def K1:TA:=fun _ H Q=>Q [] H
def Kq(ta:TE)(tr:TA):TA:=fun σ H Q=>ta σ H fun x H1=>tr σ H1 fun xs H2=>Q (x::xs) H2
section
variable {X:Cx}{e:Expr}{es:List Expr}{te:TE}{t:TA}{pos:Pos}
theorem gG:PA X [] K1:=fun _ _ _ _ H Q I h=>Calls.spliced_nil ⟨[],H,I, .nil,h⟩
theorem dG(ha:PE X e te)(hr:PA X es t)(hs:ar (e::es) X.env=(false,eval e X.env)::ar es X.env:=by rfl):PA X (e::es) (Kq te t):=by
 intro pos pins s σ H Q I h
 rw [hs]
 show wpAny _ _ (spliced ((false,eval e X.env)::dZ pos (ar es X.env))) _ _ s
 refine Calls.spliced_cons (eN (ha pins s σ H _ I h) fun u s1 ⟨x,H1,I1,r1,q1⟩=> ?_)
 exact eN (hr pos pins s1 σ H1 _ I1 q1) fun us s2 ⟨xs,H2,I2,r2,q2⟩=>⟨x::xs,H2,I2, .cons r1 r2,q2⟩
def LW(t:TA):TE:=fun σ H Q=>t σ H fun xs H1=>xs.length<=sizeLine/\ ∀p,H1 p=none->Q (.ref p) (upd H1 p (.tup xs))
def LQ(t:TA):TE:=fun σ H Q=>t σ H fun xs H1=>xs.length<=sizeLine/\ ∀p,H1 p=none->Q (.ref p) (upd H1 p (.lst xs))
theorem E4{x1}(h:PA X es t):PE X (.Tuple es x1 pos) (LW t):=by
 intro pins s σ H Q I hq
 refine wpAny_Tuple_spliced (eN (h pos pins s σ H _ I hq) fun us s1 ⟨xs,H1,I1,r,z,q⟩=>⟨by rw [<-r.length]; exact z, ?_⟩)
 have hf:H1 s1.heap.objs.size=none:=I1.dO.fresh (ay _)
 refine⟨.ref s1.heap.objs.size,upd H1 s1.heap.objs.size (.tup xs),I1.laid (t':=s1.toks) (fun b u e=>ag _ e) (ay _) ?_,rfl,q _ hf⟩
 exact⟨z,us,r,⟨_,aw _ rfl,rfl,_,rfl⟩⟩
theorem Jg(h:PA X es t):PE X (.List es pos) (LQ t):=by
 intro pins s σ H Q I hq
 refine wpAny_List_spliced (eN (h pos pins s σ H _ I hq) fun us s1 ⟨xs,H1,I1,r,z,q⟩=>⟨by rw [<-r.length]; exact z, ?_⟩)
 have hf:H1 s1.heap.objs.size=none:=I1.dO.fresh (ay _)
 refine⟨.ref s1.heap.objs.size,upd H1 s1.heap.objs.size (.lst xs),I1.laid (t':=s1.toks) (fun b u e=>ag _ e) (ay _) ?_,rfl,q _ hf⟩
 exact⟨z,us,0,r,aw _ rfl⟩
end
abbrev Sp:=List V->Hp->VK->XK->Prop
abbrev f9:=List Env->Hp->ah->XK->Value->ah->Prop
structure vJ(P:aq)(w:World)(K:aL)(mg:Str->Option Value)(base:Heap)(A:bh)(outer:List Env)(s:ah)(H:Hp):Prop where
 frames:A.frames=some outer
 mod:Mod K mg base
 bs: ∀b o,base.get? b=some o->s.heap.get? b=some o/\H b=none
 wX:base.objs.size<=s.heap.objs.size
 ll:s.heap.FunFrames base outer
 zg: ∀b∈sT outer,H b=none
 dO:n_ P w H s.heap
 bare:lJ s.gens
def CE(outer:List Env)(P:aq)(w:World)(H:Hp)(s:ah)(Q:VK)(u:Value)(s':ah):Prop:=
 ∃v H',s'.os=s.os/\lJ s'.gens/\Un (sT outer) [] H H' s.heap s'.heap/\n_ P w H' s'.heap/\RelV v u/\Q v H'
def CR(CX:f9)(outer:List Env)(P:aq)(w:World)(H:Hp)(s:ah)(Q:VK)(E:XK)(r:Result)(s':ah):Prop:=
 match r with
 | .ok (.ret u)=>CE outer P w H s Q u s'
 | .ok _=>False
 | .error e=>CX outer H s E e s'
structure mw(P:aq)(w:World)(K:aL)(mg:Str->Option Value)(base:Heap)(CX:f9)(k:Nat)(f:Addr)(fd:aV)(ps:List Str)(sp:Sp):Prop where
 len: ∀vs H Q E,sp vs H Q E->vs.length=ps.length
 run: ∀(A:bh) (outer:List Env) (s:ah) (H:Hp) (args:Args) (us:List Value) (vs:List V) (Q:VK) (E:XK),fq k A->vJ P w K mg base A outer s H->vi s fd args (ps.zip us)->Vals vs us->sp vs H Q E->
  fu (model P w) A (.call (.ref f) args) (CR CX outer P w H s Q E) s
theorem mw.imp{P:aq}{w:World}{K:aL}{mg:Str->Option Value}{base:Heap}{CX:f9}{k:Nat}{f:Addr}{fd:aV}{ps:List Str}{sp sp':Sp}(F:mw P w K mg base CX k f fd ps sp)
  (h: ∀vs H Q E,sp' vs H Q E->sp vs H Q E):mw P w K mg base CX k f fd ps sp':=
 ⟨fun vs H Q E q=>F.len vs H Q E (h _ _ _ _ q),fun A outer s H args us vs Q E hr he hb hv hs=>F.run A outer s H args us vs Q E hr he hb hv (h _ _ _ _ hs)⟩
theorem vJ.make{P:aq}{w:World}{K:aL}{mg:Str->Option Value}{base:Heap}{A:bh}{outer:List Env}{s:ah}{H:Hp}(e:vJ P w K mg base A outer s H)(C:Addr)(us:List Value)(kw:List (Str×Value)):
  vJ P w K mg base (A.under (.builtin "type.__call__" ⟨.ref C::us,kw⟩)) outer s H:=⟨by first | exact e.frames | (simpa [Around.under,Code.envs,Code.isFrame,pushEnvs]using e.frames),e.mod,e.bs,e.wX,e.ll,e.zg,e.dO,e.bare⟩
section
variable {X:Cx}{pins:List (Addr×Obj)}{σ:St}{H:Hp}{s s':ah}
theorem Inv.env0(I:Inv X pins σ H s):vJ X.prog X.w X.K X.mg X.base X.A X.stack s H:=
 ⟨I.ok.frames,I.ok.mod,I.bs,bu I.ok.wX I.sz,I.stack,I.stkFree,I.dO,I.bare⟩
theorem Inv.after{Q:VK}{u:Value}(I:Inv X pins σ H s)(h:CE X.stack X.prog X.w H s Q u s'):EP X pins σ Q u s':=by
 obtain⟨v,H',os,bare,un,dO,r,q⟩:=h
 obtain⟨hh,g,d,t,os'⟩:=s'
 obtain rfl:os'=s.os:=os
 exact⟨v,H',I.call (h':=hh) (g':=g) (d':=d) (t':=t) (ch:= []) un dO bare (fun b z=>absurd z (by simp)),r,q⟩
end
def K0(sp:Sp)(dvs:List V)(E:XK)(t:TA):TE:=fun σ H Q=>t σ H fun vs H1=>sp (vs ++ dvs) H1 Q E
def Kp(C:Addr)(m:Str)(sp:Sp)(dvs:List V)(E:XK)(ta:TE)(t:TA):TE:=fun σ H Q=>ta σ H fun x H1=> ∃a dx fs,x= .ref a/\H1 a=some (.ins C dx fs)/\fs.lookup m=none/\
 t σ H1 fun vs H2=>sp (x::(vs ++ dvs)) H2 Q E
def K6(C:Addr)(sp:Sp)(dvs:List V)(E:XK)(t:TA):TE:=fun σ H Q=>t σ H fun vs H1=> ∀x dx,H1 x=none->H1 dx=none->dx≠x->
 sp (.ref x::(vs ++ dvs)) (upd (upd H1 dx (.own x)) x (.ins C dx [])) (fun v H2=>v= .non/\Q (.ref x) H2) E
def Binds(K:aL)(fd:aV)(ps:List Str)(ds:List Value):Prop:=
 ∀(s:ah) (us:List Value),K.In s.heap->(us ++ ds).length=ps.length->vi s fd ⟨us, []⟩ (ps.zip (us ++ ds))
theorem Binds.all{K:aL}{fd:aV}{ps:List Str}(h: ∀us:List Value,us.length=ps.length->qR fd ⟨us, []⟩=pure (ps.zip us)):Binds K fd ps []:=fun s us _ hl=>by
 rw [aZ]at hl ⊢
 exact .of_eq (h us hl)
def Passes(CX:f9)(X:Cx)(E:XK):Prop:= ∀(pins:List (Addr×Obj)) (σ:St) (H:Hp) (s:ah) (e:Value) (s':ah),Inv X pins σ H s->CX X.stack H s E e s'->X.xe e s'
section
variable {X:Cx}{CX:f9}{k:Nat}{f C:Addr}{fd:aV}{ps:List Str}{sp:Sp}{dvs:List V}{ds:List Value}{E:XK}{x m:Str}{p pos apos:Pos}{e o:Expr}{es:List Expr}{ta:TE}{t:TA}
theorem E2{pins:List (Addr×Obj)}{σ:St}{H:Hp}{s:ah}{Q:VK}{us:List Value}{vs:List V}(F:mw X.prog X.w X.K X.mg X.base CX k f fd ps sp)(hr:fq k X.A)(hb:Binds X.K fd ps ds)(hd:Vals dvs ds)(hx:Passes CX X E)
  (I:Inv X pins σ H s)(r:Vals vs us)(h:sp (vs ++ dvs) H Q E):wpAny (model X.prog X.w) X.A (call (.ref f) us) (EP X pins σ Q) X.xe s:=by
 have r2:Vals (vs ++ dvs) (us ++ ds):=r.append hd
 have hl:(us ++ ds).length=ps.length:=by rw [<-r2.length]; exact F.len _ _ _ _ h
 refine wL (ja (F.run X.A X.stack s H ⟨us, []⟩ (us ++ ds) (vs ++ dvs) Q E hr I.env0 (hb s us I.kIn hl) r2 h) fun r s' hq=> ?_)
 cases r with
 | error e=>exact hx pins σ H s e s' I hq
 | ok fl=>
  cases fl with
  | ret u=>exact I.after hq
  | next=>exact cE hq
  | brk=>exact cE hq
  | cont=>exact cE hq
theorem vV(F:mw X.prog X.w X.K X.mg X.base CX k f fd ps sp)(hr:fq k X.A)(hg:Gl X x)(hm:X.mg x=some (.ref f))(hk:eY X.K (.ref f)=true)(hb:Binds X.K fd ps ds)(hd:Vals dvs ds)(hx:Passes CX X E)
  (ha:PA X (e::es) t)(hdb:(x==("__debug__":Str))=false:=by decide)(he:ar (e::es) X.env=(false,eval e X.env)::ar es X.env:=by rfl)(hpl:(dZ pos (ar es X.env)).any (·.1)=false:=by rfl):
  PE X (.Call (.Name x p) (e::es) [] pos) (K0 sp dvs E t):=by
 intro pins s σ H Q I h
 refine iT (lT I hg hm ?_ hdb)
 refine ql (h₀:=X.base) I.ok.mod.vc hk (eN (ha pos pins s σ H _ I h) fun us s1 ⟨vs,H1,I1,r,q⟩=>⟨I1.kIn, ?_⟩) he hpl
 exact E2 F hr hb hd hx I1 r q
theorem DT{pl:Sem Bool}(he:PE X o ta)(c:zo X.K C)(hm:Meth X.K C m f)(F:mw X.prog X.w X.K X.mg X.base CX k f fd ps sp)(hr:fq k X.A)(hb:Binds X.K fd ps ds)(hd:Vals dvs ds)(hx:Passes CX X E)
  (ht:eval (.Call (.Attribute o m apos) [] [] pos) X.env=(do
   let ov<-eval o X.env
   standAt apos.atName
   let(f,first)<-kg [ov] (getMethod ov m pl)
   callWith pos f first (dZ pos (ar [] X.env)) (backToKw pos (Cj [] X.env))):=by rfl):
  PE X (.Call (.Attribute o m apos) [] [] pos) (Kp C m sp dvs E ta K1):=by
 intro pins s σ H Q I h
 refine PySem.W.methodCall_KW (pl:=pl) (eN (he pins s σ H _ I h) fun u s1 ⟨x,H1,I1,rx,a,dx,fs,ex,ea,l,q⟩=> ?_) ht
 subst ex
 obtain rfl:u=ak a:=rx
 refine zi I1 ea c hm l ?_
 exact PySem.W.callWith_K0 (first:= [.ref a]) I1.kIn hm.kp (E2 (us:= [.ref a]) (vs:= [.ref a]) F hr hb hd hx I1 (.cons rfl .nil) q)
structure Mk(K:aL)(C f:Addr):Prop where
 makes:IL K C=true
 init:bj K (.ref C) "__init__"=some (some (.ref f))
 fn:qQ K (.ref f)=true
 kp:eY K (.ref C)=true
theorem DO{pins:List (Addr×Obj)}{σ:St}{H:Hp}{s:ah}{Q:VK}{us:List Value}{vs:List V}(M:Mk X.K C f)(F:mw X.prog X.w X.K X.mg X.base CX k f fd ps sp)(hr:fq (k+1) X.A)(hb:Binds X.K fd ps ds)(hd:Vals dvs ds)
  (hx:Passes CX X E)(I:Inv X pins σ H s)(r:Vals vs us)
  (h: ∀x dx,H x=none->H dx=none->dx≠x->sp (.ref x::(vs ++ dvs)) (upd (upd H dx (.own x)) x (.ins C dx [])) (fun v H2=>v= .non/\Q (.ref x) H2) E):
  wpAny (model X.prog X.w) X.A (call (.ref C) us) (EP X pins σ Q) X.xe s:=by
 have hq:=h (s.heap.objs.size+1) s.heap.objs.size (I.dO.fresh (Ck _)) (I.dO.fresh (ay _)) (aE (fU _))
 have I2:=Inv.made (C:=C) I
 have r2:Vals (V.ref (s.heap.objs.size+1)::(vs ++ dvs)) (ak (s.heap.objs.size+1)::(us ++ ds)):= .cons rfl (r.append hd)
 have hl:(ak (s.heap.objs.size+1)::us ++ ds).length=ps.length:=by
  have e:=r2.length
  rw [F.len _ _ _ _ hq]at e
  exact e.symm
 refine wL (Di (f:=f) I.kIn M.makes M.init (beq_iff_eq.mp M.fn) (ja (F.run _ X.stack _ _ ⟨ak (s.heap.objs.size+1)::us, []⟩ (ak (s.heap.objs.size+1)::(us ++ ds)) _ _ E (hr.make C us [])
  (I2.env0.make C us []) (hb _ (ak (s.heap.objs.size+1)::us) I2.kIn hl) r2 hq) fun r s' hq'=> ?_))
 cases r with
 | error e=>exact hx pins σ _ _ e s' I2 hq'
 | ok fl=>
  cases fl with
  | ret u=>
   obtain⟨v,H',I3,rv,ev,q3⟩:=I2.after hq'
   subst ev
   exact⟨rv,⟨V.ref (s.heap.objs.size+1),H',I3,rfl,q3⟩⟩
  | next=>exact cE hq'
  | brk=>exact cE hq'
  | cont=>exact cE hq'
theorem HB(M:Mk X.K C f)(F:mw X.prog X.w X.K X.mg X.base CX k f fd ps sp)(hr:fq (k+1) X.A)(hg:Gl X x)(hm:X.mg x=some (.ref C))(hb:Binds X.K fd ps ds)(hd:Vals dvs ds)(hx:Passes CX X E)
  (ha:PA X (e::es) t)(hdb:(x==("__debug__":Str))=false:=by decide)(he:ar (e::es) X.env=(false,eval e X.env)::ar es X.env:=by rfl)(hpl:(dZ pos (ar es X.env)).any (·.1)=false:=by rfl):
  PE X (.Call (.Name x p) (e::es) [] pos) (K6 C sp dvs E t):=by
 intro pins s σ H Q I h
 refine iT (lT I hg hm ?_ hdb)
 refine ql (h₀:=X.base) I.ok.mod.vc M.kp (eN (ha pos pins s σ H _ I h) fun us s1 ⟨vs,H1,I1,r,q⟩=>⟨I1.kIn, ?_⟩) he hpl
 exact DO M F hr hb hd hx I1 r q
end
structure bL(N P:List Str)(sc:Scope):Prop where
 kind:sc.kind= .function
 co:sc.isCoroutine=false
 gen:sc.isGenerator=false
 nd:N.Nodup
 pre:N.take P.length=P
 par: ∀x∈P,sc.names.lookup x=some .local\/sc.names.lookup x=some .cell
 IW: ∀y∈sc.names,y.2≠ .free
theorem uK{kindOf:Str->Option jH}{x:Str}: ∀{binds:List (Str×Value)} {m:Str->Option Value},(∀v,(x,v)∉binds)->bindL kindOf binds m x=m x
 | [],_,_=>rfl
 | (n,v)::r,m,h=>by
  unfold bindL
  rw [uK fun w hw=>h w (cb _ hw)]
  split
  ·have:x≠n:=by rintro rfl; exact h v bT
   simp [this]
  ·rfl
theorem uX{kindOf:Str->Option jH}{x:Str}: ∀{binds:List (Str×Value)} {m:Str->Option Value},(∀v,(x,v)∉binds)->bindC kindOf binds m x=m x
 | [],_,_=>rfl
 | (n,v)::r,m,h=>by
  unfold bindC
  rw [uX fun w hw=>h w (cb _ hw)]
  split
  ·rfl
  ·have:x≠n:=by rintro rfl; exact h v bT
   simp [this]
theorem uQ{kindOf:Str->Option jH}{x:Str}{v:Value}: ∀{P:List Str} {vs:List Value} {i:Nat} {m:Str->Option Value},P.Nodup->P[i]? =some x->vs[i]? =some v->kindOf x=some .local->
  bindL kindOf (P.zip vs) m x=some v
 | [],_,_,_,_,h,_,_=>by simp at h
 | _::_, [],_,_,_,_,h,_=>by simp at h
 | p::P,w::vs,0,m,nd,h1,h2,hk=>by
  simp at h1 h2; subst h1; subst h2
  show bindL kindOf ((p,w)::P.zip vs) m p=_
  unfold bindL
  rw [uK fun v hv=>(eF.mp nd).1 (nP hv).1,if_pos hk]
  simp
 | p::P,w::vs,i+1,m,nd,h1,h2,hk=>by
  show bindL kindOf ((p,w)::P.zip vs) m x=_
  unfold bindL
  exact uQ (i:=i) (eF.mp nd).2 (by simpa using h1) (by simpa using h2) hk
theorem u4{kindOf:Str->Option jH}{x:Str}{v:Value}: ∀{P:List Str} {vs:List Value} {i:Nat} {m:Str->Option Value},P.Nodup->P[i]? =some x->vs[i]? =some v->kindOf x≠some .local->
  bindC kindOf (P.zip vs) m x=some v
 | [],_,_,_,_,h,_,_=>by simp at h
 | _::_, [],_,_,_,_,h,_=>by simp at h
 | p::P,w::vs,0,m,nd,h1,h2,hk=>by
  simp at h1 h2; subst h1; subst h2
  show bindC kindOf ((p,w)::P.zip vs) m p=_
  unfold bindC
  rw [uX fun v hv=>(eF.mp nd).1 (nP hv).1,if_neg hk]
  simp
 | p::P,w::vs,i+1,m,nd,h1,h2,hk=>by
  show bindC kindOf ((p,w)::P.zip vs) m x=_
  unfold bindC
  exact u4 (i:=i) (eF.mp nd).2 (by simpa using h1) (by simpa using h2) hk
def start(N:List Str)(vs:List V):St:=vs.map some ++ gT (N.length - vs.length) none
def kz(CX:f9)(P:aq)(w:World)(K:aL)(mg:Str->Option Value)(base:Heap)(N:List Str)(qual:Str)(scope:Scope)(f:Addr)(cd:Value)(A:bh)(outer:List Env)(s:ah)(H:Hp)(E:XK):Cx where
 prog:=P
 w:=w
 K:=K
 mg:=mg
 base:=base
 A:=A.deeper (j8 qual scope s.heap.objs.size f cd)
 N:=N
 s₀:=s
 H₀:=H
 env:=j8 qual scope s.heap.objs.size f cd
 outer:=outer
 stack:=j8 qual scope s.heap.objs.size f cd::outer
 ex:= []
 calm:=true
 fn:=fun _=>true
 pn:= []
 xe:=fun e s'=>wpAny (model P w) (A.deeper (j8 qual scope s.heap.objs.size f cd)) (leaving (j8 qual scope s.heap.objs.size f cd) e) (fun _ s''=>CX outer H s E e s'') (fun e' s''=>CX outer H s E e' s'') s'
theorem xr{sc:Scope}{n:Nat}{x:Str}(h:sc.names.lookup x=some .cell): ∃c,(cellsFrom n sc.names []).lookup x=some c:=by
 have q:=z6 sc.names n [] (.inl h)
 exact yJ.mp q
theorem uV{CX:f9}{P:aq}{w:World}{K:aL}{mg:Str->Option Value}{base:Heap}{N ps:List Str}{qual:Str}{scope:Scope}{f:Addr}{cd:Value}{A:bh}{outer:List Env}{s s1:ah}{H:Hp}{E:XK}{us:List Value}{vs:List V}
  (S:bL N ps scope)(hd:A.handled=none)(e0:vJ P w K mg base A outer s H)(hl:vs.length=ps.length)(r:Vals vs us)
  (x:InCallC s s.heap.objs.size (bindL (j8 qual scope s.heap.objs.size f cd).kindOf (ps.zip us) fun _=>none) (cellsFrom (s.heap.objs.size+1) scope.names []) (bindC (j8 qual scope s.heap.objs.size f cd).kindOf (ps.zip us) fun _=>none) s1):
  Inv (kz CX P w K mg base N qual scope f cd A outer s H E) [] (start N vs) H s1:=by
 have hpl:ps.length<=N.length:=by have:=congrArg jI S.pre; rw [a8]at this; omega
 obtain⟨h1,tk,rfl,hk⟩:=x.done
 have noA: ∀b:Addr,b∉(kz CX P w K mg base N qual scope f cd A outer s H E).ex:=fun b z=>absurd (show b∈([]:List Addr)from z) (by simp)
 refine⟨⟨e0.mod,S.kind,rfl,rfl,ay _,fun y z c h1 h2=> ?_,fun y hy=> ?_,fun y c _ h=> ?_,fun _=>hd,Around.frames_deeper e0.frames, .inr ⟨rfl,rfl⟩,fun b z=>absurd z (noA b),e0.bs,e0.wX,fun b _ _=>noA b,fun b z=>absurd z (noA b),e0.ll,e0.zg⟩,
  rfl,e0.bare,Un.kept hk,⟨_,x.toInCall.ns,fun i y v h1 h2 h3=> ?_⟩,fun y c h=>⟨_,x.cell y c h⟩,e0.dO.fresh (ay _),fun y c h=> ?_,fun p hp=>absurd (show p∈([]:List (Addr×Obj))from hp) (by simp),e0.dO.kept hk, ?_⟩
 ·exact name_of_addr x.apart (cD h1) (cD h2)
 ·have hy:scope.names.lookup y=some .cell\/scope.names.lookup y=some .free:=hy
  rcases hy with hy | hy
  ·exact xr hy
  ·exact absurd rfl (S.IW _ (cD hy))
 ·exact i9 (x.above y c (cD h))
 ·have hi:i < vs.length:=by
   unfold start at h2
   by_cases hi:i < vs.length
   ·exact hi
   ·rw [eZ (by simpa using hi)]at h2
    rw [yX]at h2
    split at h2 <;> cases h2
  have ha:vs[i]? =some v:=by
   unfold start at h2
   rw [fj (by simpa using hi),ax]at h2
   cases e:vs[i]? with
   | none=>rw [e]at h2; cases h2
   | some a=>rw [e]at h2; cases h2; rfl
  obtain⟨u,hu,rv⟩:=r.get ha
  have hp:ps[i]? =some y:=by
   rw [<-S.pre,List.getElem?_take_of_lt (by omega)]; exact h1
  have ndP:ps.Nodup:=by rw [<-S.pre]; exact S.nd.sublist (lL _ _)
  refine⟨u,rv, ?_⟩
  rcases S.par y (aW hp)with k | k
  ·exact .inl ⟨k,uQ ndP hp hu k⟩
  ·obtain⟨c,e⟩:=xr (n:=s.heap.objs.size+1) k
   refine .inr ⟨.inl k,c,e, ?_⟩
   have q:=x.cell y c e
   rw [u4 ndP hp hu (by show scope.names.lookup y≠_; rw [k]; decide)]at q
   exact q
 ·exact e0.dO.fresh (i9 (x.above y c (cD h)))
 ·unfold start
  show _=N.length
  rw [ao,ae,jq]
  omega
theorem xY{CX:f9}{P:aq}{w:World}{K:aL}{mg:Str->Option Value}{base:Heap}{k:Nat}{f:Addr}{name qual:Str}{params:Arguments}{body:List Stmt}{scope:Scope}{dV kV doc pm cdv ct oc:Value}{an od:Option Addr}
  {osl:Array (Option Value)}{N ps:List Str}{sp:Sp}(lk:K.lookup f=some ⟨oc,od, .func (c5 name qual params body scope dV kV doc pm an cdv ct),osl⟩)(hcd:kS K cdv qual=true)(S:bL N ps scope)
  (len: ∀vs H Q E,sp vs H Q E->vs.length=ps.length)
  (hbody: ∀(A:bh) (outer:List Env) (s:ah) (H:Hp) (vs:List V) (Q:VK) (E:XK),fq k (A.deeper (j8 qual scope s.heap.objs.size f cdv))->sp vs H Q E->
   ∃t,zl (kz CX P w K mg base N qual scope f cdv A outer s H E) body t/\t {nx:=fun _ H'=>Q .non H',rt:=Q} (start N vs) H):
  mw P w K mg base CX (k+1) f (c5 name qual params body scope dV kV doc pm an cdv ct) ps sp:=by
 refine⟨len,fun A outer s H args us vs Q E hr e0 hb r hsp=> ?_⟩
 have hl:=len _ _ _ _ hsp
 have KX:K.In s.heap:=e0.mod.vc.keeps fun b o e=>(e0.bs b o e).1
 have lim:s.heap.NoLimit:=e0.mod.nolimit.keeps fun b o e=>(e0.bs b o e).1
 have hkind: ∀y∈ps.zip us,scope.names.lookup y.1=some .local\/(scope.names.lookup y.1=some .cell/\((cellsFrom (s.heap.objs.size+1) scope.names []).lookup y.1).isSome=true):=fun⟨n,v⟩ hy=>by
  rcases S.par n (nP hy).1 with q | q
  ·exact .inl q
  ·exact .inr ⟨q,z6 _ _ _ (.inl q)⟩
 refine codeAny_call_function hr.depth (KX _ _ lk) rfl S.co S.gen rfl (PySem.W.codeRec_of KX hcd) (hb _ _ _ _ ?_)
 refine wpAny_newFunctionEnv_cells S.kind hkind fun env he s1 x=> ?_
 subst he
 refine⟨lim.keeps x.toInCall.keep,codeAny_func ?_⟩
 obtain⟨t,ht,hq⟩:=hbody A outer s H vs Q E (hr.deeper _) hsp
 have I:Inv (kz CX P w K mg base N qual scope f cdv A outer s H E) [] (start N vs) H s1:=uV S hr.hd e0 hl r x
 refine bN (ht [] s1 (start N vs) H _ I hq) (fun fl s' hs=> ?_) fun e s' hs=>hs
 have fin: ∀{σ':St} {H':Hp} {v:V} {u:Value},Inv (kz CX P w K mg base N qual scope f cdv A outer s H E) [] σ' H' s'->RelV v u->Q v H'->CE outer P w H s Q u s':=
  fun{σ' H' v u} J rv q=>⟨v,H',J.os,J.bare,J.base,J.dO,rv,q⟩
 cases fl with
 | ret u=>
  obtain⟨v,σ',H',J,rv,q⟩:=hs
  exact fin J rv q
 | next=>
  obtain⟨σ',H',J,q⟩:=hs
  exact fin (v:=V.non) (u:=aY) J rfl q
 | brk=>
  obtain⟨_,_,_,q⟩:=hs
  exact cE q
 | cont=>
  obtain⟨_,_,_,q⟩:=hs
  exact cE q
end L2
namespace L2
open PySem PySem.Spec PyProof.Rows
section
variable {X:Cx}{x:Str}{p pos:Pos}{e:Expr}{es:List Expr}{t:TA}{id T:String}{r:List V->Hp->VK->Prop}
def M4(r:List V->Hp->VK->Prop)(t:TA):TE:=fun σ H Q=>t σ H fun vs H1=>r vs H1 Q
theorem gZ(hc:gK X (.builtin id) r)(hg:Gl X x)(hm:X.mg x=none)(hv:cZ x=some (.builtin id))(ha:PA X (e::es) t)(hn:x≠"__name__":=by decide)(hdb:(x==("__debug__":Str))=false:=by decide)
  (he:ar (e::es) X.env=(false,eval e X.env)::ar es X.env:=by rfl)(hpl:(dZ pos (ar es X.env)).any (·.1)=false:=by rfl):PE X (.Call (.Name x p) (e::es) [] pos) (M4 r t):=by
 intro pins s σ H Q I h
 refine iT (pX I hg hm hv ?_ hn hdb)
 exact PyProof.Rows.callWith_builtin1 (eN (ha pos pins s σ H _ I h) fun us s1 ⟨vs,H1,I1,r1,q1⟩=>hc pins s1 σ H1 vs us Q I1 r1 q1) he hpl
theorem jP(hc:gK X (.type T) r)(hg:Gl X x)(hm:X.mg x=none)(hv:cZ x=some (.type T))(ha:PA X (e::es) t)(hn:x≠"__name__":=by decide)(hdb:(x==("__debug__":Str))=false:=by decide)
  (he:ar (e::es) X.env=(false,eval e X.env)::ar es X.env:=by rfl)(hpl:(dZ pos (ar es X.env)).any (·.1)=false:=by rfl):PE X (.Call (.Name x p) (e::es) [] pos) (M4 r t):=by
 intro pins s σ H Q I h
 refine iT (pX I hg hm hv ?_ hn hdb)
 exact kh (eN (ha pos pins s σ H _ I h) fun us s1 ⟨vs,H1,I1,r1,q1⟩=>hc pins s1 σ H1 vs us Q I1 r1 q1) he hpl
end
end L2
namespace HT
open PySem PyProof.Rows
def lexLt:List Int->List Int->Bool
 | [], []=>false
 | [],_::_=>true
 | _::_, []=>false
 | x::xs,y::ys=>if x=y then lexLt xs ys else decide (x < y)
theorem rN(x y:Int)(xs ys:List Int):lexLt (x::xs) (y::ys)=if x=y then lexLt xs ys else decide (x < y):=rfl
theorem uq:lexLt [] []=false:=rfl
theorem sU(y:Int)(ys:List Int):lexLt [] (y::ys)=true:=rfl
theorem rR(x:Int)(xs:List Int):lexLt (x::xs) []=false:=rfl
theorem DJ(A:bh)(s:ah)(a:Int)(t:Tok)(c:Int)(u:Tok): ∃e,SeqAt.EqAt A s (.int a t) (.int c u) e/\(e=true↔a=c):=
 ⟨(a==c),SeqAt.EqAt.int_int a t c u,by simp⟩
theorem CM(A:bh)(s:ah)(a:Int)(t:Tok)(c:Int)(u:Tok)(prog:aq)(w:World)(E:Value->ah->Prop)(Q:Value->ah->Prop)(h:Q (.bool (decide (a < c))) s):
  wpAny (model prog w) A (richCompare .Lt (.int a t) (.int c u)) Q E s:=
 (PyProof.Rows.lt_int h:wpAny (model prog w) A (cC .Lt (.int a t) (.int c u)) Q E s)
section
open PySem.SeqAt
open PySem.AutoSeq1 (wpAny_loadPart')
open PySem.MeetsSeq PySem.MeetsSeq2 PySem.MeetsSeq3
theorem ux(l b:Addr)(items items2:Array Value)(n n2:Nat)(dd dd2:Option Addr)(sl sl2:Array (Option Value))(ns ms:List Int)(hi:jb items.toList ns)(hj:jb items2.toList ms):
  Meets (c6.«tuple.__lt__» ⟨[.ref l, .ref b], []⟩)
   (fun _ R s=>s.heap.get? l=some {cls:= .type "tuple",dict:=dd,data:= .seq items n,slots:=sl}/\s.heap.get? b=some {cls:= .type "tuple",dict:=dd2,data:= .seq items2 n2,slots:=sl2}/\
    R (.ok (.ret (.bool (lexLt ns ms)))) s):=
 .of_wp fun prog w A R s h=>by
  obtain⟨hp,g,d,tk,os⟩:=s; obtain⟨hl,hb,h⟩:=h
  have f2:=iw
  have z1:items.size=ns.length:=by rw [<-hi.length]; simp
  have z2:items2.size=ms.length:=by rw [<-hj.length]; simp
  wp_walk using wpAny_loadPart' hl,wpAny_loadPart' hb,mz _ (fun rest b s'=>b.1=none/\s'=⟨hp,g,d,tk,os⟩/\ ∃(vs ws:List Value) (ns' ms':List Int),rest=vs.zip ws/\
   jb vs ns'/\jb ws ms'/\ns'.length+items2.size=ms'.length+items.size/\R (.ok (.ret (.bool (lexLt ns' ms')))) ⟨hp,g,d,tk,os⟩) _
  case turn=>
   rintro⟨y,x⟩ rest b s' ⟨hb',rfl,vs,ws,ns',ms',hz,hvi,hwi,hlen,hR⟩
   cases hvi with
   | nil=>rw [List.zip_nil_left]at hz; cases hz
   | cons a t hvi'=>
    cases hwi with
    | nil=>rw [List.zip_nil_right]at hz; cases hz
    | cons c u hwi'=>
     rw [qm]at hz
     injection hz with hyx hrest
     injection hyx with hy hx
     subst hy hx
     rw [rN]at hR
     simp only [aH]at hlen
     obtain⟨e,he,hiff⟩:=DJ A.in1 ⟨hp,g,d,tk,os⟩ a t c u
     refine aa (he prog w _ _ ?_)
     cases e with
     | true=>
      rw [if_pos (hiff.mp rfl)]at hR
      wp_walk
      exact⟨rfl,rfl,_,_,_,_,hrest,hvi',hwi',by omega,hR⟩
     | false=>
      rw [if_neg (fun q=>absurd (hiff.mpr q) aA)]at hR
      have hri:=CM A.in1 ⟨hp,g,d,tk,os⟩ a t c u prog w
      wp_walk using hri
      exact⟨_,rfl,by simpa using hR⟩
  case fin=>
   rintro⟨b1,b2⟩ s' ⟨hb',rfl,vs,ws,ns',ms',hz,hvi,hwi,hlen,hR⟩
   simp only at hb'
   subst hb'
   have hv:lexLt ns' ms'=decide (items.size < items2.size):=by
    cases hvi with
    | nil=>
     cases hwi with
     | nil=>
      simp only [c7]at hlen
      rw [uq]
      exact(decide_eq_false (by omega)).symm
     | cons c u hw=>
      simp only [c7,aH]at hlen
      rw [sU]
      exact(decide_eq_true (by omega)).symm
    | cons a t hv=>
     cases hwi with
     | nil=>
      simp only [c7,aH]at hlen
      rw [rR]
      exact(decide_eq_false (by omega)).symm
     | cons c u hw=>
      rw [qm]at hz
      cases hz
   rw [hv]at hR
   wp_walk
   exact⟨_,rfl,by simpa [Builtin.Tuple.tupleCompareSizes]using hR⟩
  case h=>
   exact⟨rfl,rfl,items.toList,items2.toList,ns,ms,rfl,hi,hj,by omega,h⟩
end
section
variable {prog:aq}{w:World}{A:bh}{E:Value->ah->Prop}{s:ah}
theorem zx{l b:Addr}{items items2:Array Value}{ns ms:List Int}{Q:Value->ah->Prop}(hl:IsTup s.heap l items)(hb:IsTup s.heap b items2)(hi:jb items.toList ns)(hj:jb items2.toList ms)
  (hu:A.units < cLine)(h:Q (.bool (lexLt ns ms)) s):wpAny (model prog w) A (cC .Lt (.ref l) (.ref b)) Q E s:=by
 obtain⟨⟨cls,dd,data,sl⟩,ho,hc,n,hd⟩:=id hl
 obtain⟨⟨cls2,dd2,data2,sl2⟩,ho2,hc2,n2,hd2⟩:=id hb
 simp only at hc hd hc2 hd2
 subst hc hd hc2 hd2
 exact richCompare_meets_room (op:= .Lt) ⟨_,ho,rfl⟩ ⟨_,ho2,rfl⟩ A8 PySem.F.entry_tuple_lt (PySem.F.args_tuple_lt_2 _ _) (ux l b items items2 n n2 dd dd2 sl sl2 ns ms hi hj)
  ⟨ho,ho2,show fD (lexLt ns ms)≠Value.notImplemented/\Q (.bool (lexLt ns ms)) s from⟨(fun x=>nomatch x),h⟩⟩ hu
theorem HK{t b:Addr}{vs ws:List Value}{Q:Value->ah->Prop}(ht:IsTup s.heap t vs.toArray)(hb:IsTup s.heap b ws.toArray)(hv:vs≠ [])
  (h1:ws= []->Q (.ref t) s)(h2:ws≠ []->Q (.ref s.heap.objs.size) {s with heap:=s.heap.push {cls:= .type "tuple",data:= .seq (vs ++ ws).toArray}})
  (hsz:vs.length+ws.length<=sizeLine):wpAny (model prog w) A (jG .Add (.ref t) (.ref b)) Q E s:=by
 obtain⟨⟨cls,dd,data,sl⟩,ho,hc,n,hd⟩:=id ht
 obtain⟨⟨cls2,dd2,data2,sl2⟩,ho2,hc2,n2,hd2⟩:=id hb
 simp only at hc hd hc2 hd2
 subst hc hd hc2 hd2
 have e:vs.toArray ++ ws.toArray=(vs ++ ws).toArray:=by simp
 by_cases hw:ws= []
 ·exact z7 ⟨_,ho,rfl⟩ ⟨_,ho2,rfl⟩ Ib seq_tuple_add z8 yY (yK _ _)
   (tuple_addW1 t b vs.toArray ws.toArray n n2 dd dd2 sl sl2 (by simpa using hv) (by simp [hw])) ⟨ho,ho2,h1 hw⟩
 ·refine z7 ⟨_,ho,rfl⟩ ⟨_,ho2,rfl⟩ Ib seq_tuple_add z8 yY (yK _ _)
   (tuple_addW2 t b vs.toArray ws.toArray n n2 dd dd2 sl sl2 (by simpa using hv) (by simpa using hw) (by rw [az,az]; exact hsz)) ⟨ho,ho2, ?_⟩
  rw [e]
  exact h2 hw
def h_(n d:Nat):Option Int->Nat
 | none=>d
 | some v=>if v < 0 then(v+(n:Int)).toNat else min v.toNat n
theorem JB(n d:Nat)(hd:d<=n)(o:Option Int):h_ n d o<=n:=by
 cases o with
 | none=>exact hd
 | some v=>
  show(if v < 0 then(v+(n:Int)).toNat else min v.toNat n)<=n
  by_cases hv:v < 0
  ·rw [if_pos hv]; omega
  ·rw [if_neg hv]; exact tX _ _
theorem Aw(v:Int)(n d:Nat):(if v < 0 then max (v+(n:Int)) 0 else min v (n:Int))=((h_ n d (some v):Nat):Int):=by
 show(if v < 0 then max (v+(n:Int)) 0 else min v (n:Int))=(((if v < 0 then(v+(n:Int)).toNat else min v.toNat n):Nat):Int)
 by_cases hv:v < 0
 ·simp only [if_pos hv]; omega
 ·simp only [if_neg hv]; omega
theorem zM(lo hi:Option Int)(n:Nat):wZ lo hi 1 (n:Int)=(((h_ n 0 lo:Nat):Int),((h_ n n hi:Nat):Int)):=by
 have h1: ¬((1:Int) < 0):=by omega
 unfold wZ
 simp only [h1,if_false]
 refine Prod.ext ?_ ?_
 ·cases lo with
  | none=>rfl
  | some v=>exact Aw v n 0
 ·cases hi with
  | none=>rfl
  | some v=>exact Aw v n n
theorem zK(i j:Nat):lE (i:Int) (j:Int) 1=j - i:=by
 unfold lE
 have h1:(1:Int) > 0:=by omega
 simp only [h1,if_true,Int.ediv_one]
 split <;> omega
theorem sP{v:Value}{o:Option Int}{Q:Option Int->ah->Prop}(p:qo v o)(h:Q o s):wpAny (model prog w) A (Builtin.Slice.slicePartIndex v) Q E s:=by
 cases p with
 | none=>exact slicePart_none h
 | int i t=>exact slicePart_int h
theorem lg{sl:Addr}{vl vu:Value}{lo hi:Option Int}{n:Nat}{Q:Int×Int×Nat->ah->Prop}(hs:s.heap.IsSliceOf sl vl vu .none)(pl:qo vl lo)(pu:qo vu hi)
  (h:Q (((h_ n 0 lo:Nat):Int),1,h_ n n hi - h_ n 0 lo) s):wpAny (model prog w) A (Builtin.Slice.sliceApplied (.ref sl) (pure (n:Int))) Q E s:=by
 obtain⟨os,hos,hcs,hds⟩:=id hs
 unfold Builtin.Slice.sliceApplied Builtin.Slice.sliceFields
 refine aa (aa (bz hos hds (x:=vl) rfl (aa (bz hos hds (x:=vu) rfl (aa (bz hos hds (x:= .none) rfl (af ?_)))))))
 refine aa (slicePart_none ?_)
 show wpAny _ _ (if((1:Int)==0)=true then _ else _) _ _ s
 rw [if_neg (by decide)]
 refine aa (sP pl (aa (sP pu (aa (af ?_)))))
 show wpAny _ _ (match wZ lo hi 1 (n:Int)with | (lo,hi)=>pure (lo,(1:Int),lE lo hi 1)) _ _ s
 rw [zM lo hi n]
 show wpAny _ _ (pure (((h_ n 0 lo:Nat):Int),(1:Int),lE ((h_ n 0 lo:Nat):Int) ((h_ n n hi:Nat):Int) 1)) _ _ s
 rw [zK]
 exact af h
theorem Ew(xs:Array Value)(i k:Nat):((bD k).filterMap fun(m:Nat)=>xs[((i:Int)+(m:Int) * 1).toNat]?).toArray=((xs.toList.drop i).take k).toArray:=by
 have e:(fun(m:Nat)=>xs[((i:Int)+(m:Int) * 1).toNat]?)=fun m=>xs[i+m]? :=by
  funext m
  have:((i:Int)+(m:Int) * 1).toNat=i+m:=by omega
  rw [this]
 rw [e]
 have:=pick_run xs i k
 rw [List.filterMap_map]at this
 have e2:((fun x=>xs[x]?) ∘ fun x=>i+x)=fun m=>xs[i+m]? :=rfl
 rw [e2]at this
 rw [this]
theorem pF{t sl:Addr}{items:Array Value}{vl vu:Value}{lo hi:Option Int}{Q:Value->ah->Prop}(ht:IsTup s.heap t items)(hs:s.heap.IsSliceOf sl vl vu .none)(pl:qo vl lo)(pu:qo vu hi)
  (hw: ¬(h_ items.size 0 lo=0/\h_ items.size items.size hi=items.size))
  (h:Q (.ref s.heap.objs.size) {s with heap:=s.heap.push {cls:= .type "tuple",data:= .seq ((items.toList.drop (h_ items.size 0 lo)).take (h_ items.size items.size hi - h_ items.size 0 lo)).toArray}})
  (hsz:items.size<=sizeLine):wpAny (model prog w) A (vj (.ref t) (.ref sl)) Q E s:=by
 have htake:sizeOk (.seq ((items.toList.drop (h_ items.size 0 lo)).take (h_ items.size items.size hi - h_ items.size 0 lo)).toArray):=by
  show((items.toList.drop (h_ items.size 0 lo)).take (h_ items.size items.size hi - h_ items.size 0 lo)).toArray.size<=sizeLine
  rw [az,a8,bw,aj]
  omega
 have hj:h_ items.size items.size hi<=items.size:=JB _ _ (ay _) hi
 obtain⟨os,hos,hcs,hds⟩:=id hs
 have hTs:s.TypeIs (.ref sl) "slice":=⟨os,hos,hcs⟩
 unfold vj
 try with_reducible refine bG ?_
 first | refine aa (af ?_) | skip
 refine aa (wpAny_sequenceKey ht.typeIs (by decide) ?_)
 refine aa (cM (name:=hJ "__getitem__") ht.typeIs dJ
  (bI dJ ht.typeIs entry_tuple_getitem ?_ (args_tuple_getitem _ _)))
 show wpAny _ _ (wM (.ref t) >>=_) _ _ s
 refine aa (tupleItemsOf_ ht ?_)
 refine aa (fv hTs ?_)
 rw [if_pos (by decide)]
 refine aa (lg hs pl pu ?_)
 have hno: ¬((((h_ items.size 0 lo:Nat):Int)==0&&(1:Int)==1&&(h_ items.size items.size hi - h_ items.size 0 lo)==items.size)=true):=by
  intro q
  rw [bx,bx]at q
  have q1:((h_ items.size 0 lo:Nat):Int)=0:=o7 q.1.1
  have q2:h_ items.size items.size hi - h_ items.size 0 lo=items.size:=o7 q.2
  exact hw ⟨by omega,by omega⟩
 show wpAny _ _ (if(((h_ items.size 0 lo:Nat):Int)==0&&(1:Int)==1&&(h_ items.size items.size hi - h_ items.size 0 lo)==items.size)=true then _ else _) _ _ s
 rw [if_neg hno,Ew]
 first
  | exact aa (m:=ma _) (bb (af ⟨_,rfl,af h⟩) htake)
  | exact aa (m:=ma _) (bb (aa (af (af ⟨_,rfl,af h⟩))) htake)
  | exact aa (aa (m:=ma _) (bb (af (af ⟨_,rfl,af h⟩)) htake))
  | exact aa (aa (m:=ma _) (bb (af ⟨_,rfl,af h⟩) htake))
end
end HT
namespace L2
open PySem PySem.Spec PyProof.Rows
abbrev TO:=St->Hp->(Option Int->Hp->Prop)->Prop
def PO(X:Cx)(e:Option Expr)(t:TO):Prop:=
 ∀(pins:List (Addr×Obj)) (s:ah) (σ:St) (H:Hp) (Q:Option Int->Hp->Prop),Inv X pins σ H s->t σ H Q->
  wpAny (model X.prog X.w) X.A (evalPart e X.env) (fun u s'=> ∃o H',Inv X pins σ H' s'/\qo u o/\Q o H') X.xe s
def GZ:TO:=fun _ H Q=>Q none H
def Lj(t:TE):TO:=fun σ H Q=>t σ H fun x H1=> ∃i,x= .int i/\Q (some i) H1
theorem intsAre_of{ns:List Int}: ∀{us:List Value},Vals (ns.map V.int) us->jb us ns:=by
 induction ns with
 | nil=>intro us r; rw [qS]at r; cases r; exact .nil
 | cons n ns ih=>
  intro us r
  rw [bf]at r
  cases r with
  | cons r1 r2=>
   obtain⟨t,e⟩:=r1
   subst e
   exact .cons n t (ih r2)
section
variable {X:Cx}{e:Expr}{te:TE}{lo hi:Option Expr}{tl th:TO}{pos p2:Pos}
theorem Hw:PO X none GZ:=by
 intro pins s σ H Q I h
 rw [evalPart_none]
 exact af ⟨none,H,I, .none,h⟩
theorem Hm(h:PE X e te):PO X (some e) (Lj te):=by
 intro pins s σ H Q I hw
 rw [evalPart_some]
 refine eN (h pins s σ H _ I hw) fun u s1 ⟨x,H1,I1,r1,q1⟩=> ?_
 obtain⟨i,rfl,q⟩:=q1
 obtain⟨t,rfl⟩:=r1
 exact⟨some i,H1,I1, .int i t,q⟩
def Mj(X:Cx)(r:V->Option Int->Option Int->Hp->VK->Prop):Prop:=
 ∀(pins:List (Addr×Obj)) (s:ah) (σ:St) (H:Hp) (x:V) (v vl vu:Value) (lo hi:Option Int) (sl:Addr) (Q:VK),Inv X pins σ H s->RelV x v->s.heap.IsSliceOf sl vl vu .none->qo vl lo->qo vu hi->r x lo hi H Q->
  ∃T id,typeLookup (.type T) "__getitem__"=pure (some (.builtin id))/\s.TypeIs v T/\wpAny (model X.prog X.w) X.A (vj v (.ref sl)) (EP X pins σ Q) X.xe s
def ND(r:V->Option Int->Option Int->Hp->VK->Prop)(te:TE)(tl th:TO):TE:=fun σ H Q=>te σ H fun x H1=>tl σ H1 fun l H2=>th σ H2 fun u H3=>r x l u H3 Q
theorem E5{r:V->Option Int->Option Int->Hp->VK->Prop}(hr:Mj X r)(he:PE X e te)(hl:PO X lo tl)(hu:PO X hi th):PE X (.Subscript e (.Slice lo hi none p2) pos) (ND r te tl th):=by
 intro pins s σ H Q I h
 refine Subscript_ (eN (he pins s σ H _ I h) fun v s1 ⟨x,H1,I1,r1,q1⟩=> ?_)
 refine wpAny_Slice (eN (hl pins s1 σ H1 _ I1 q1) fun vl s2 ⟨l,H2,I2,pl,q2⟩=>eN (hu pins s2 σ H2 _ I2 q2) fun vu s3 ⟨u,H3,I3,pu,q3⟩=> ?_)
 rw [evalPart_none]
 refine af ?_
 have I4:Inv X pins σ H3 {s3 with heap:=s3.heap.push {cls:= .type "slice",data:= .fields #[vl,vu, .none]}}:=I3.kept (t':=s3.toks) fun b ob q=>ag _ q
 obtain⟨T,id,hT,ht,hg⟩:=hr pins {s3 with heap:=s3.heap.push {cls:= .type "slice",data:= .fields #[vl,vu, .none]}} σ H3 x v vl vu l u s3.heap.objs.size Q I4 r1 (Heap.IsSliceOf.new ..) pl pu q3
 show wpAny (model X.prog X.w) X.A (subscriptTail e (.Slice lo hi none p2) v (.ref s3.heap.objs.size)) (EP X pins σ Q) X.xe {s3 with heap:=s3.heap.push {cls:= .type "slice",data:= .fields #[vl,vu, .none]}}
 exact tail_any (ops:= [.ref s3.heap.objs.size,v]) ht hT hg (by with_unfolding_all rfl)
def y9(xs:List V)(lo hi:Option Int):List V:=(xs.drop (HT.h_ xs.length 0 lo)).take (HT.h_ xs.length xs.length hi - HT.h_ xs.length 0 lo)
theorem ye(xs:List V)(lo hi:Option Int):(y9 xs lo hi).length<=xs.length:=by
 unfold y9
 rw [a8,bw]
 omega
def LK(K:aL):V->Option Int->Option Int->Hp->VK->Prop:=fun x lo hi H Q=> ∃a xs,x= .ref a/\jR K H a xs/\
 ¬(HT.h_ xs.length 0 lo=0/\HT.h_ xs.length xs.length hi=xs.length)/\ ∀p,H p=none->Q (.ref p) (upd H p (.tup (y9 xs lo hi)))
theorem Jk:Mj X (LK X.K):=by
 intro pins s σ H x v vl vu lo hi sl Q I rx hs pl pu h
 obtain⟨a,xs,rfl,hx,hw,q⟩:=h
 cases rx
 obtain⟨its,r,ht,hz⟩:=I.tuple hx
 have hlen:its.toArray.size=xs.length:=by rw [az]; exact r.length.symm
 refine⟨"tuple",_,dJ.lookup,ht.typeIs, ?_⟩
 refine HT.pF ht hs pl pu (by rw [hlen]; exact hw) ?_ (by rw [hlen]; exact hz)
 rw [hlen]
 refine⟨.ref s.heap.objs.size,_,I.laid (t':=s.toks) (o:= .tup (y9 xs lo hi)) (fun b ob q=>ag _ q) (ay _) ?_,rfl,q _ (I.dO.fresh (ay _))⟩
 exact⟨bu (ye xs lo hi) hz,_,(r.drop (HT.h_ xs.length 0 lo)).take (HT.h_ xs.length xs.length hi - HT.h_ xs.length 0 lo),IsTup.new _ _⟩
def KZ(K:aL):R2:=fun x y H Q=> ∃a b xs ys,x= .ref a/\y= .ref b/\jR K H a xs/\jR K H b ys/\xs≠ []/\xs.length+ys.length<=sizeLine/\
 (ys= []->Q (.ref a) H)/\(ys≠ []-> ∀p,H p=none->Q (.ref p) (upd H p (.tup (xs ++ ys))))
theorem Vals.nil_iff{xs:List V}{us:List Value}(r:Vals xs us):us= []↔xs= []:=by
 cases r with
 | nil=>simp
 | cons _ _=>simp
theorem G_:nX X (jG .Add) (KZ X.K):=by
 intro pins s σ H x y v u Q I rx ry h
 obtain⟨a,b,xs,ys,rfl,rfl,ha,hb,hx,hz,q1,q2⟩:=h
 cases rx
 cases ry
 obtain⟨its,r1,p1,_⟩:=I.tuple ha
 obtain⟨its2,r2,p2,_⟩:=I.tuple hb
 refine HT.HK p1 p2 (fun z=>hx (r1.nil_iff.mp z)) (fun z=>⟨.ref a,H,I,rfl,q1 (r2.nil_iff.mp z)⟩) (fun z=> ?_) (by rw [<-r1.length, <-r2.length]; exact hz)
 refine⟨.ref s.heap.objs.size,_,I.laid (t':=s.toks) (o:= .tup (xs ++ ys)) (fun b ob q=>ag _ q) (ay _) ?_,rfl,q2 (fun w=>z (r2.nil_iff.mpr w)) _ (I.dO.fresh (ay _))⟩
 exact⟨by rw [ao]; exact hz,_,r1.append r2,IsTup.new _ _⟩
end
end L2
namespace L2
open PySem PySem.Spec PyProof.Rows
def CA(n:Nat)(i:Int):Option Nat:=if 0<=i then(if i < n then some i.toNat else none)else if -(n:Int)<=i then some (i+n).toNat else none
def uk{α:Type}(xs:List α)(i:Int):Option α:=(CA xs.length i).bind fun j=>xs[j]?
theorem q9{n:Nat}{i:Int}{j:Nat}(h:CA n i=some j):seqIndex? i n=some j/\j < n/\ -(n:Int)<=i/\i < n:=by
 unfold CA at h
 by_cases h0:0<=i
 ·rw [if_pos h0]at h
  by_cases h1:i < n
  ·rw [if_pos h1]at h
   have e:i.toNat=j:=aC h
   exact⟨by rw [seqIndex_of h0 h1,e],by omega,by omega,h1⟩
  ·rw [if_neg h1]at h; cases h
 ·rw [if_neg h0]at h
  by_cases h1: -(n:Int)<=i
  ·rw [if_pos h1]at h
   have e:(i+n).toNat=j:=aC h
   exact⟨by rw [seqIndex_neg (by omega) h1,e],by omega,h1,by omega⟩
  ·rw [if_neg h1]at h; cases h
theorem wC{α:Type}{xs:List α}{i:Int}{v:α}(h:uk xs i=some v): ∃j,seqIndex? i xs.length=some j/\xs[j]? =some v/\j < xs.length/\ -(xs.length:Int)<=i/\i < xs.length:=by
 unfold uk at h
 cases e:CA xs.length i with
 | none=>rw [e]at h; cases h
 | some j=>
  rw [e]at h
  obtain⟨h1,h2,h3,h4⟩:=q9 e
  exact⟨j,h1,h,h2,h3,h4⟩
theorem GY{α:Type}{xs:List α}{j:Nat}{v:α}(h:xs[j]? =some v):uk xs (j:Int)=some v:=by
 have hj:j < xs.length:=(aD.mp h).1
 have e:CA xs.length (j:Int)=some j:=by
  unfold CA
  rw [if_pos (by omega),if_pos (by omega)]; simp
 unfold uk; rw [e]; exact h
def pv(b:Expr):Prop:= ∀o i,subscripted b false o i=operate [o,i] (vj o i)
def Lz(X:Cx)(r:R2):Prop:=
 ∀(value slice:Expr) (pins:List (Addr×Obj)) (s:ah) (σ:St) (H:Hp) (x y:V) (v u:Value) (Q:VK),Inv X pins σ H s->RelV x v->RelV y u->r x y H Q->
  subscripted slice false v u=operate [v,u] (vj v u)->wpAny (model X.prog X.w) X.A (subscriptTail value slice v u) (EP X pins σ Q) X.xe s
def NJ(X:Cx)(id:String)(r:V->List V->Hp->VK->Prop):Prop:=
 ∀(pins:List (Addr×Obj)) (s:ah) (σ:St) (H:Hp) (x:V) (xs:List V) (v:Value) (us:List Value) (Q:VK),Inv X pins σ H s->RelV x v->Vals xs us->r x xs H Q->
  wpAny (model X.prog X.w) X.A (call (.builtin id) (v::us)) (EP X pins σ Q) X.xe s
section
variable {X:Cx}{a b:Expr}{ta tb:TE}{pos:Pos}
theorem Ek{r:R2}(hr:Lz X r)(ha:PE X a ta)(hb:PE X b tb)(hs:pv b):PE X (.Subscript a b pos) (Lr r ta tb):=by
 intro pins s σ H Q I h
 exact Subscript_ (JE ha hb I h fun v u s2 x y H2 I2 rx ry q=>hr a b pins s2 σ H2 x y v u Q I2 rx ry q (hs _ _))
def LU(K:aL):R2:=fun x y H Q=> ∃p xs i v,x= .ref p/\y= .int i/\ox K H p xs/\uk xs i=some v/\Q v H
def L8(K:aL):R2:=fun x y H Q=> ∃p xs i v,x= .ref p/\y= .int i/\jR K H p xs/\uk xs i=some v/\Q v H
theorem GD:Lz X (LU X.K):=by
 intro value slice pins s σ H x y v u Q I rx ry h hs
 obtain⟨p,xs,i,z,rfl,rfl,hq,he,q⟩:=h
 cases rx
 obtain⟨t,rfl⟩:=ry
 obtain⟨its,r,pl,hz⟩:=I.list hq
 obtain⟨j,h1,h2,h3,h4,h5⟩:=wC he
 obtain⟨w,ew,rw'⟩:=r.get h2
 have hl:=r.length
 have hn:=vC
 have fin:EP X pins σ Q w s:=⟨z,H,I,rw',q⟩
 by_cases h0:0<=i
 ·have hj:i.toNat=j:=by
   rw [seqIndex_of h0 h5]at h1
   exact aC h1
  exact item_listR pl.isList h0 (by omega) (by rw [hj]; simpa using ew) fin hs
 ·have hj:(i+(its.toArray.size:Int)).toNat=j:=by
   rw [seqIndex_neg (by omega) h4]at h1
   rw [az, <-hl]
   exact aC h1
  exact z9 (x:=w) pl.isList.typeIs slot_list_getitem.lookup
   (wpAny_getItem_list_neg (Q:=fun r s'=>r=w/\EP X pins σ Q r s') pl.isList (by omega) (by rw [az] <;> omega) (by omega) (by rw [hj]; simpa using ew) ⟨rfl,fin⟩) hs
theorem JH:Lz X (L8 X.K):=by
 intro value slice pins s σ H x y v u Q I rx ry h hs
 obtain⟨p,xs,i,z,rfl,rfl,hq,he,q⟩:=h
 cases rx
 obtain⟨t,rfl⟩:=ry
 obtain⟨its,r,pl,hz⟩:=I.tuple hq
 obtain⟨j,h1,h2,h3,h4,h5⟩:=wC he
 obtain⟨w,ew,rw'⟩:=r.get h2
 have hl:=r.length
 have hn:=vC
 have fin:EP X pins σ Q w s:=⟨z,H,I,rw',q⟩
 exact z9 (x:=w) pl.typeIs slot_tuple_getitem.lookup
  (getItem_tuple (j:=j) (Q:=fun r s'=>r=w/\EP X pins σ Q r s') pl (by omega) (by omega) (by rw [az, <-hl]; exact h1) (by simpa using ew) ⟨rfl,fin⟩) hs
theorem zu(its:List Value)(n j:Nat)(u:Value):df (·.setIfInBounds j u) {cls:= .type "list",data:= .seq its.toArray n}={cls:= .type "list",data:= .seq (its.set j u).toArray n}:=by
 simp [df]
theorem Inv.lst{pins:List (Addr×Obj)}{σ:St}{H:Hp}{s:ah}{p:Addr}{xs:List V}(I:Inv X pins σ H s)(h:H p=some (.lst xs)):
  ∃(its:List Value) (n:Nat),Vals xs its/\s.heap.get? p=some {cls:= .type "list",data:= .seq its.toArray n}/\xs.length<=sizeLine:=by
 obtain⟨z,its,n,r,e⟩:=I.dO p _ h
 exact⟨its,n,r,e,z⟩
theorem Inv.lstUpd{pins:List (Addr×Obj)}{σ:St}{H:Hp}{s:ah}{p:Addr}{xs ys:List V}{its its':List Value}{n n':Nat}{f:Obj->Obj}(I:Inv X pins σ H s)(h:H p=some (.lst xs))
  (ho:s.heap.get? p=some {cls:= .type "list",data:= .seq its.toArray n})(hf:f {cls:= .type "list",data:= .seq its.toArray n}={cls:= .type "list",data:= .seq its'.toArray n'})(r:Vals ys its')(hz:ys.length<=sizeLine)(t:Nat):
  Inv X pins σ (upd H p (.lst ys)) {s with heap:=s.heap.update p f,toks:=t}:=by
 have e:(s.heap.update p f).get? p=some {cls:= .type "list",data:= .seq its'.toArray n'}:=by
  rw [cT f ho (by rw [hf] <;> rfl),hf]
 refine I.write (x:=p) (e:=p) (by rw [h]; trivial) (.inl rfl) (fun b u hb q=>(cf _ _ (qN hb)).trans q) ⟨_,e⟩ ?_
 exact⟨hz,its',n',r,e⟩
def Lk:V->V->V->Hp->(Hp->Prop)->Prop:=fun o i v H Q=> ∃p xs k j,o= .ref p/\i= .int k/\H p=some (.lst xs)/\CA xs.length k=some j/\Q (upd H p (.lst (xs.set j v)))
theorem set_list:Kz X Lk:=by
 intro pins s σ H o i v ov iv u Q I ro ri rv h
 obtain⟨p,xs,k,j,rfl,rfl,hp,hj,q⟩:=h
 cases ro
 obtain⟨t,rfl⟩:=ri
 obtain⟨its,n,r,ho,hz⟩:=I.lst hp
 obtain⟨h1,h2,h3,h4⟩:=q9 hj
 have hl:=r.length
 have hn:=vC
 have I':Inv X pins σ (upd H p (.lst (xs.set j v))) {s with heap:=s.heap.update p (df (·.setIfInBounds j u))}:=
  I.lstUpd hp ho (zu its n j u) (r.set rv j) (by rw [bA]; exact hz) s.toks
 by_cases h0:0<=k
 ·have hk:k.toNat=j:=by
   rw [seqIndex_of h0 h4]at h1
   exact aC h1
  exact PySem.W.ki_setAt ho h0 (by omega) (by rw [az, <-hl]; exact h4) (by rw [hk]; exact⟨_,I',q⟩)
 ·have hk:(k+(its.toArray.size:Int)).toNat=j:=by
   rw [seqIndex_neg (by omega) h3]at h1
   rw [az, <-hl]
   exact aC h1
  exact PySem.W.ki_setBack ho (by omega) (by rw [az, <-hl]; exact h3) (by omega) (by rw [hk]; exact⟨_,I',q⟩)
theorem wc:gK X (.builtin "len") (fun xs H Q=> ∃p ys,xs= [.ref p]/\(ox X.K H p ys\/jR X.K H p ys)/\Q (.int ys.length) H):=by
 intro pins s σ H xs us Q I r h
 obtain⟨p,ys,rfl,hq,q⟩:=h
 obtain⟨u,rfl,rx⟩:=vals1 r
 cases rx
 have hn:=vC
 rcases hq with hq | hq
 ·obtain⟨its,r',pl,hz⟩:=I.list hq
  have hlen:=r'.length
  exact Calls.call_len_list pl.isList (by simp only [az] <;> omega) ⟨.int ys.length,H,I.tok _,⟨s.toks+1,by rw [az,hlen]⟩,q⟩
 ·obtain⟨its,r',pl,hz⟩:=I.tuple hq
  have hlen:=r'.length
  exact len_tuple pl (by simp only [az] <;> omega) ⟨.int ys.length,H,I.tok _,⟨s.toks+1,by rw [az,hlen]⟩,q⟩
theorem we:gK X (.type "list") (fun xs H Q=> ∃p ys,xs= [.ref p]/\(ox X.K H p ys\/jR X.K H p ys)/\ ∀l,H l=none->Q (.ref l) (upd H l (.lst ys))):=by
 intro pins s σ H xs us Q I r h
 obtain⟨p,ys,rfl,hq,q⟩:=h
 obtain⟨u,rfl,rx⟩:=vals1 r
 cases rx
 have fin: ∀(its:List Value),Vals ys its->ys.length<=sizeLine-> ∀(h':Heap) (c':Nat),(∀b o',s.heap.get? b=some o'->h'.get? b=some o')->
   h'.get? s.heap.objs.size=some {cls:= .type "list",dict:=none,data:= .seq its.toArray c',slots:= #[]}->EP X pins σ Q (.ref s.heap.objs.size) {s with heap:=h'}:=fun its r' hz h' c' kp e=>
  ⟨.ref s.heap.objs.size,_,I.laid (t':=s.toks) kp (ay _) (show fC X.prog X.w _ h' _ (.lst ys)from⟨hz,its,c',r',e⟩),rfl,q _ (I.dO.fresh (ay _))⟩
 rcases hq with hq | hq
 ·obtain⟨its,r',pl,hz⟩:=I.list hq
  have hlen:=r'.length
  obtain⟨o,ho,hc,n,hd⟩:=pl.isList
  exact call_list_seq p (.inl rfl) ho hc hd (fun h' c' kp e=>fin its r' hz h' c' kp e) (by simp only [az] <;> omega)
 ·obtain⟨its,r',pl,hz⟩:=I.tuple hq
  have hlen:=r'.length
  obtain⟨o,ho,hc,n,hd⟩:=pl
  exact call_list_seq p (.inr rfl) ho hc hd (fun h' c' kp e=>fin its r' hz h' c' kp e) (by simp only [az] <;> omega)
theorem uj:gK X (.type "tuple") (fun xs H Q=> ∃p ys,xs= [.ref p]/\((ox X.K H p ys/\ ∀l,H l=none->Q (.ref l) (upd H l (.tup ys)))\/(jR X.K H p ys/\Q (.ref p) H))):=by
 intro pins s σ H xs us Q I r h
 obtain⟨p,ys,rfl,h⟩:=h
 obtain⟨u,rfl,rx⟩:=vals1 r
 cases rx
 rcases h with⟨hq,q⟩ | ⟨hq,q⟩
 ·obtain⟨its,r',pl,hz⟩:=I.list hq
  have hlen:=r'.length
  refine call_tuple_list pl.isList (fun h' kp=> ?_) (by simp only [az] <;> omega)
  have I1:Inv X pins σ H {s with heap:=h'}:=I.kept (t':=s.toks) kp
  have I2:Inv X pins σ (upd H h'.objs.size (.tup ys)) {s with heap:=h'.push {cls:= .type "tuple",data:= .seq its.toArray}}:=
   I1.laid (t':=s.toks) (fun b o e=>ag _ e) (ay _) (show fC X.prog X.w _ _ _ (.tup ys)from⟨hz,its,r',IsTup.new _ _⟩)
  exact⟨.ref h'.objs.size,_,I2,rfl,q _ (I1.dO.fresh (ay _))⟩
 ·obtain⟨its,r',pl,hz⟩:=I.tuple hq
  exact call_tuple_same pl ⟨.ref p,H,I,rfl,q⟩
def MY(K:aL)(T:String)(x:V)(H:Hp):Prop:=match x with
 | .str _=>T="str"
 | .int _=>T="int"
 | .ref p=>(T="list"/\ ∃xs,ox K H p xs)\/(T="tuple"/\ ∃o,K.lookup p=some o/\o.cls= .type "tuple"/\o.dict=none)\/
   (T="dict"/\((∃kvs,H p=some (.dK kvs))\/ ∃kvs,H p=some (.dT kvs)))\/(T="set"/\ ∃S n,H p=some (.set S n))
 | _=>False
theorem J_{pins:List (Addr×Obj)}{σ:St}{H:Hp}{s:ah}{T:String}{x:V}{v:Value}(I:Inv X pins σ H s)(r:RelV x v)(ty:MY X.K T x H):
  s.TypeIs v T/\ ∀a,v= .ref a-> ∃ob,s.heap.get? a=some ob/\ob.dict=none:=by
 cases x with
 | str z=>
  obtain⟨t,rfl⟩:=r
  cases (show T="str" from ty)
  exact⟨typeIs_str s z t,fun _ e=>nomatch e⟩
 | int i=>
  obtain⟨t,rfl⟩:=r
  cases (show T="int" from ty)
  exact⟨typeIs_int s i t,fun _ e=>nomatch e⟩
 | ref p=>
  cases r
  rcases ty with⟨rfl,xs,hq⟩ | ⟨rfl,o,hk,hc,hd⟩ | ⟨rfl,hk⟩ | ⟨rfl,S,n,hk⟩
  ·obtain⟨its,_,pl,_⟩:=I.list hq
   refine⟨pl.isList.typeIs,fun a e=> ?_⟩
   cases e
   obtain⟨o,n,e,c,hd,_⟩:=pl
   exact⟨o,e,hd⟩
  ·refine⟨⟨o,I.kIn p o hk,hc⟩,fun a e=> ?_⟩
   cases e
   exact⟨o,I.kIn _ o hk,hd⟩
  ·have z: ∃o,s.heap.get? p=some o/\o.ExactDict:=by
    rcases hk with⟨kvs,hk⟩ | ⟨kvs,hk⟩
    ·obtain⟨_,_,_,_,o,_,_,e,ex,_⟩:=I.dO p _ hk
     exact⟨o,e,ex⟩
    ·obtain⟨_,_,_,_,o,_,_,e,ex,_⟩:=I.dO p _ hk
     exact⟨o,e,ex⟩
   obtain⟨o,e,ex⟩:=z
   refine⟨⟨o,e,ex.1⟩,fun a e2=> ?_⟩
   cases e2
   exact⟨o,e,ex.2.1⟩
  ·obtain⟨o,_,_,_,e,ex,_⟩:=I.dO p _ hk
   refine⟨⟨o,e,ex.1⟩,fun a e2=> ?_⟩
   cases e2
   exact⟨o,e,ex.2.1⟩
 | _=>exact cE ty
def Nw(K:aL)(T:String)(r:V->List V->Hp->VK->Prop)(to:TE)(t:TA):TE:=fun σ H Q=>to σ H fun x H1=>MY K T x H1/\t σ H1 fun xs H2=>r x xs H2 Q
variable {o e:Expr}{es:List Expr}{to:TE}{t:TA}{name:Str}{apos cpos:Pos}{T id:String}{r:V->List V->Hp->VK->Prop}
theorem Fx(pa:PlainAttrs T)(slot:Slot T name id)(hty:typeOf (.builtin id)=pure (.type "method_descriptor"))(hm:NJ X id r)(ho:PE X o to)(ha:PA X (e::es) t)
  (hbase:jC o name X.env (eval o X.env)=eval o X.env:=by rfl)
  (hfew:((dZ cpos (ar (e::es) X.env)).all (fun x=> !x.1)&&(backToKw cpos (Cj [] X.env)).all (fun x=>x.1.isSome)
   &&decide ((e::es).length+([]:List Keyword).length+(if([]:List Keyword).isEmpty then 0 else 1) < 30))=true:=by rfl)
  (hline:(apos.endLine==cpos.line)=true:=by rfl)(hs:ar (e::es) X.env=(false,eval e X.env)::ar es X.env:=by rfl)(hplain:(dZ cpos (ar es X.env)).any (·.1)=false:=by rfl):
  PE X (.Call (.Attribute o name apos) (e::es) [] cpos) (Nw X.K T r to t):=by
 intro pins s σ H Q I h
 refine wpAny_Call_method_late hbase hfew hline rfl (eN (ho pins s σ H _ I h) fun v s1 ⟨x,H1,I1,r1,ty,q1⟩=> ?_)
 obtain⟨h1,h2⟩:=J_ I1 r1 ty
 refine⟨T,id,pa,slot,hty,h1,h2, ?_⟩
 have hA:=ha cpos pins s1 σ H1 _ I1 q1
 rw [hs]at hA ⊢
 refine Calls.callWith_builtin (by show(false || (dZ cpos (ar es X.env)).any (·.1))=false; rw [hplain] <;> rfl) (Calls.evalArgs_plain ?_)
 exact eN hA fun us s2 ⟨vs,H2,I2,r2,q2⟩=>hm pins s2 σ H2 x vs v us Q I2 r1 r2 q2
end
end L2
namespace L2
open PySem PySem.Spec PyProof.Rows
def Lp(X:Cx)(id:String)(r:V->List V->Hp->VK->Prop):Prop:=
 ∀(pins:List (Addr×Obj)) (s:ah) (σ:St) (H:Hp) (x:V) (xs:List V) (v:Value) (us:List Value) (Q:VK),Inv X pins σ H s->RelV x v->Vals xs us->r x xs H Q->
  wpAny (model X.prog X.w) X.A (call (.builtin id) (v::us)) (EP X pins σ Q) X.xe s
theorem Vals.one: ∀{x:V} {us:List Value},Vals [x] us-> ∃u,us= [u]/\RelV x u
 | _,_, .cons r .nil=>⟨_,rfl,r⟩
theorem Vals.eraseIdx: ∀{xs:List V} {us:List Value} (i:Nat),Vals xs us->Vals (xs.eraseIdx i) (us.eraseIdx i)
 | _,_,_, .nil=> .nil
 | _,_,0, .cons _ t=>t
 | _,_,i+1, .cons r t=> .cons r (Vals.eraseIdx i t)
theorem uU{α:Type}: ∀(l:List α) (i:Nat),(l.eraseIdx i).length<=l.length
 | [],_=>ay _
 | _::_,0=>Ck _
 | _::r,i+1=>Nat.succ_le_succ (uU r i)
section
variable {X:Cx}{pins:List (Addr×Obj)}{σ:St}{H:Hp}{s:ah}{l b:Addr}{xs ys zs:List V}
theorem Inv.lset{its its':List Value}{n:Nat}{f:Array Value->Array Value}{t':Nat}(I:Inv X pins σ H s)(hH:H l=some (.lst xs))
  (e:s.heap.get? l=some {cls:= .type "list",data:= .seq its.toArray n})(hf:f its.toArray=its'.toArray)(hv:Vals ys its')(hz:ys.length<=sizeLine):
  Inv X pins σ (upd H l (.lst ys)) {s with heap:=s.heap.update l (df f),toks:=t'}:=by
 have q:=PySem.IsL.update e f
 rw [hf]at q
 refine I.write (x:=l) (e:=l) (by rw [hH]; exact trivial) (.inl rfl) (fun b' u hb hu=>(cf s.heap (df f) (qN hb)).trans hu) ⟨_,q⟩ ?_
 exact⟨hz,its',_,hv,q⟩
theorem Inv.lnew{its:List Value}{t':Nat}(I:Inv X pins σ H s)(hv:Vals ys its)(hz:ys.length<=sizeLine):
  Inv X pins σ (upd H s.heap.objs.size (.lst ys)) {s with heap:=s.heap.push {cls:= .type "list",data:= .seq its.toArray},toks:=t'}:=
 I.laid (fun _ _ q=>ag _ q) (ay _) ⟨hz,its,0,hv,aw _ rfl⟩
theorem Inv.fresh(I:Inv X pins σ H s):H s.heap.objs.size=none:=I.dO.fresh (ay _)
theorem Inv.lstM(I:Inv X pins σ H s)(hH:H l=some (.lst xs)):xs.length<=sizeLine/\ ∃(its:List Value) (n:Nat),Vals xs its/\xs.length=its.length/\s.heap.get? l=some {cls:= .type "list",data:= .seq its.toArray n}:=by
 obtain⟨z,its,n,r,e⟩:=I.dO l _ hH
 exact⟨z,its,n,r,r.length,e⟩
theorem Fd{n:Nat}(h:n<=sizeLine):iy n=false:=by
 unfold iy
 exact decide_eq_false (by omega)
end
section
variable {X:Cx}
def GI:V->List V->Hp->VK->Prop:=fun x vs H Q=> ∃l xs y,x= .ref l/\vs= [y]/\H l=some (.lst xs)/\xs.length < sizeLine/\Q .non (upd H l (.lst (xs ++ [y])))
theorem nD:Lp X "list.append" GI:=by
 intro pins s σ H x vs v us Q I rx rv h
 obtain⟨l,xs,y,rfl,rfl,hH,hz,q⟩:=h
 cases rx
 obtain⟨u,rfl,ru⟩:=rv.one
 obtain⟨z,its,n,r,hl,e⟩:=I.lstM hH
 refine call_meets F.slot_list_append ⟨_,e,rfl⟩ F.entry_list_append (F.args_list_append_2 _ _) (PySem.list_append l its.toArray n u (by rw [az]; omega)) ⟨e, ?_⟩
 refine⟨.non,_,I.lset (its':=its ++ [u]) hH e (by simp) (r.append (.cons ru .nil)) ?_,rfl,q⟩
 rw [ao,fb]
 omega
def JY:V->List V->Hp->VK->Prop:=fun x vs H Q=> ∃l xs i k y,x= .ref l/\vs= [.int i]/\H l=some (.lst xs)/\ -(2 ^ 63)<=i/\i < 2 ^ 63/\seqIndex? i xs.length=some k/\xs[k]? =some y/\Q y (upd H l (.lst (xs.eraseIdx k)))
theorem C8:Lp X "list.pop" JY:=by
 intro pins s σ H x vs v us Q I rx rv h
 obtain⟨l,xs,i,k,y,rfl,rfl,hH,h1,h2,hk,hy,q⟩:=h
 cases rx
 obtain⟨u,rfl,ru⟩:=rv.one
 obtain⟨t,rfl⟩:=ru
 obtain⟨z,its,n,r,hl,e⟩:=I.lstM hH
 obtain⟨w,hw,rw'⟩:=r.get hy
 refine call_meets F.slot_list_pop ⟨_,e,rfl⟩ F.entry_list_pop (F.args_list_pop_2 _ _)
  (MeetsSeq.list_pop_at l its.toArray n i t k w (fitsIndex_both h1 h2) (by rw [az, <-hl]; exact hk) (by rw [<-bp]; exact hw) (by rw [az]; omega)) ⟨e, ?_⟩
 refine⟨y,_,I.lset (its':=its.eraseIdx k) hH e ?_ (r.eraseIdx k) ?_,rw',q⟩
 ·show its.toArray.eraseIdxIfInBounds k=(its.eraseIdx k).toArray
  rw [List.eraseIdxIfInBounds_toArray]
 ·have:=uU xs k
  omega
end
end L2
namespace Att
open PySem PySem.W PySem.Calls PyProof.Rows
theorem qF{P:Params}{h:Heap}: ∀(ns:List Int) (vs:List Value),WellAll P h vs (ns.map WData.int)->jb vs ns:=by
 intro ns
 induction ns with
 | nil=>
  intro vs w
  rw [qS]at w
  cases w
  exact .nil
 | cons n ns ih=>
  intro vs w
  rw [bf]at w
  cases w with
  | cons a b=>
   cases a
   exact .cons _ _ (ih _ b)
theorem BP{l:OpenLaw}{n:Nat}(hn:l.most=some n){P:Params}{h:Heap}{args:List WData}{vals:List Value}
  (hpre:l.row.toRowW.claim.pre args=true)(hwl:WellAll P h vals args):
  ∃a vs ns,vals= [ak a]/\args= [WData.list (ns.map WData.int)]/\h.get? a=some {cls:= .type "list",data:= .seq vs.toArray}/\jb vs ns/\ns.length<=n:=by
 have hsh:WShape.hasAll [] args [.list .int]=true:=(pre_splitW hpre).1
 have hc:l.pre.holds [] {args:=args}=true:=(pre_splitW hpre).2
 obtain⟨d,r,rfl,h1,h2⟩:=hasAllW_cons hsh
 obtain rfl:=hasAllW_nil h2
 obtain⟨xs,rfl,h3⟩:=hasW_list h1
 obtain⟨ns,rfl⟩:=items_int h3
 have hlen:ns.length<=n:=by
  unfold OpenLaw.pre at hc
  have h4:(WTm.not (.lt (.lit (.int (n:Int))) (.len (.arg 0)))).holds [] {args:= [.list (ns.map .int)]}=true:=by
   have h4:=(holds_andW hc).1
   rw [hn]at h4
   exact h4
  have h5:=condW_of h4 (w_not (w_lt w_lit (w_len_list (w_arg rfl))))
  rw [ae]at h5
  refine tY fun q=> ?_
  have q':(n:Int) < ((ns.length:Nat):Int):=by omega
  first
   | (rw [decide_eq_true q']at h5; exact absurd h5 (by decide))
   | (simp at h5; omega)
 cases hwl with
 | cons w1 w2=>
  cases w2
  cases w1 with
  | list ho hall=>exact⟨_,_,ns,rfl,rfl,ho,qF ns _ hall,hlen⟩
theorem BR(l:OpenLaw)(args:List WData):l.row.toRowW.claim.post args (.bool true) args=true:=
 postW_of (r:=l.row.toRowW) (X:=(true==true))
  (show WShape.has [] (.bool true) .bool=true by first | rfl | decide | simp [WShape.has,WShape.arms,WShape.armsAll])
  (show(WTm.eq .res (.lit (.bool true))).value [] {args:=args,res:=some (.bool true),after:=args}=some (.bool (true==true))from w_eq_bool (w_res rfl) w_lit) rfl
theorem xn{l:OpenLaw}{n:Nat}{q:aq}{loose:List Str}{XP:(Str->Option Value)->Heap->Prop}{YP:World->Heap->Prop}{d:DefRec}
  (hn:l.most=some n)(hdf:d.params.defaults= [])
  (call: ∀(w:World) (s₀ s₁:ah) (mg mb:Str->Option Value) (fa:Addr) (o:Obj) (pm cd doc:Value) (a:Addr) (vs:List Value) (ns:List Int),
   Ground q loose [] XP w s₀ mg mb s₁.heap->YP w s₁.heap->
   s₁.heap.get? fa=some o->o.data= .func (docDef d.name d.params d.body d.scope pm cd doc)->s₁.heap.CodeRec cd d.name->mg d.name=some (.ref fa)->
   s₁.heap.get? a=some {cls:= .type "list",data:= .seq vs.toArray}->jb vs ns->ns.length<=n->s₁.gens= #[]->
   fu (model l.prog w) qT (.call (.ref fa) ⟨[.ref a], []⟩) (fun r s'=>r= .ok (.ret (.bool true))/\OldK s₁.heap s'.heap/\s'.os=s₁.os/\lJ s'.gens) s₁):
  WalkO q loose XP YP l.row.toRowW d [] (fun f vs=>PySem.call f vs):=by
 intro w s₀ s₁ mg mb G Y fa o pm cd doc dV kV ho hd hcd hD hmg hg args vals as hpre hlay hrd hwl hlo
 obtain rfl:dV= .none:=Dflts.none hD hdf
 obtain rfl:kV= .none:=Dflts.noKw hD
 obtain⟨a,vs,ns,rfl,rfl,hobj,hints,hlen⟩:=BP hn hpre hwl
 refine enter_call (ja (call w s₀ s₁ mg mb fa o pm cd doc a vs ns G Y ho (fd_plain hd) hcd hmg hobj hints hlen hg) fun r s' hq=> ?_)
 obtain⟨rfl,h2,h3,h4⟩:=hq
 exact⟨.inl ⟨.bool true, .bool true, [],rfl,fun _=>rfl, .bool true,BR l _,fun _=>⟨fw,fun _ hm=>(nomatch hm)⟩⟩,h2,h3,h4⟩
end Att
namespace L2
open PySem PySem.Spec PyProof.Rows
theorem uI: ∀{vs:List Value} {ns:List Int},jb vs ns->Vals (ns.map V.int) vs
 | _,_, .nil=> .nil
 | _,_, .cons n t h=> .cons ⟨t,rfl⟩ (uI h)
def Jt(H:Hp):Prop:= ∀b,H b=none\/ ∃o xs,H b=some (.frz o (.lst xs))
theorem Em{P:aq}{w:World}{K:aL}{mg mb:Str->Option Value}{CX:f9}{k:Nat}{fa a:Addr}{fd:aV}{x:Str}{sp:Sp}{s₁:ah}{vs:List Value}{ns:List Int}
  (KX:K.In s₁.heap)(hns:s₁.heap.Ns bM mg)(hb:s₁.heap.Ns builtinsNs mb)(hbb: ∀x:Str,x≠"__name__"->mb x=cZ x)(hlim:s₁.heap.NoLimit)(hg:s₁.gens= #[])
  (ha:s₁.heap.get? a=some {cls:= .type "list",data:= .seq vs.toArray})(hi:jb vs ns)(hl:ns.length<=sizeLine)(hr:fq k qT)
  (F: ∀base:Heap,K.In base->base.Ns bM mg->mw P w K mg base CX k fa fd [x] sp)(hbind: ∀(s:ah) (u:Value),vi s fd ⟨[u], []⟩ [(x,u)])
  (hsp: ∀H:Hp,Jt H->ox K H a (ns.map V.int)->sp [.ref a] H (fun v _=>v= .bl true) fun _ _ _=>False)
  (hCX: ∀H e s',CX [] H s₁ (fun _ _ _=>False) e s'->False):
  fu (model P w) qT (.call (.ref fa) ⟨[.ref a], []⟩) (fun r s'=>r= .ok (.ret (.bool true))/\OldK s₁.heap s'.heap/\s'.os=s₁.os/\lJ s'.gens) s₁:=by
 have rv:=uI hi
 have lenV:=hi.length
 have core: ∀H:Hp,Jt H->ox K H a (ns.map V.int)->n_ P w H s₁.heap->(∀b,H b≠none->b=a)->(H a≠none->K.lookup a=none)->
   fu (model P w) qT (.call (.ref fa) ⟨[.ref a], []⟩) (fun r s'=>r= .ok (.ret (.bool true))/\OldK s₁.heap s'.heap/\s'.os=s₁.os/\lJ s'.gens) s₁:=by
  intro H hO hS dO hA hK
  have base_of: ∀{b:Addr} {o:Obj},s₁.heap.get? b=some o->H b=none->(vX s₁.heap H).get? b=some o:=fun e n=>Ft e n
  have noA: ∀{b:Addr} {o:Obj} {es:Array dR} {ep:Nat},s₁.heap.get? b=some o->o.data= .dict es ep->H b=none:=fun{b o es ep} e d=>by
   cases q:H b with
   | none=>rfl
   | some u=>
    have e':b=a:=hA b (by rw [q]; simp)
    subst e'
    rw [ha]at e; cases e
    have d':wN vs.toArray _=Data.dict es ep:=d
    cases d'
  have nsK: ∀{b:Addr} {m:Str->Option Value},s₁.heap.Ns b m->(vX s₁.heap H).Ns b m:=fun{b m} ⟨o,es,ep,e,d,r⟩=>⟨o,es,ep,base_of e (noA e d),d,r⟩
  have hKb:K.In (vX s₁.heap H):=fun b o e=>base_of (KX b o e) (by
   cases q:H b with
   | none=>rfl
   | some u=>
    have e':b=a:=hA b (by rw [q]; simp)
    subst e'
    rw [hK (by rw [q]; simp)]at e; cases e)
  have hM:Mod K mg (vX s₁.heap H):=⟨hKb,nsK hns,⟨mb,nsK hb,hbb⟩,let⟨mc,h1,h2⟩:=hlim; ⟨mc,nsK h1,h2⟩⟩
  have e0:vJ P w K mg (vX s₁.heap H) qT [] s₁ H:=⟨rfl,hM,fun b o e=>GJ e,mV (BO _ _),trivial,fun b hb=>absurd (show b∈([]:List Addr)from hb) (by simp),dO, .of_eq hg⟩
  refine ja ((F _ hKb (nsK hns)).run qT [] s₁ H ⟨[.ref a], []⟩ [.ref a] [.ref a] _ _ hr e0 (hbind s₁ (.ref a)) (.cons rfl .nil) (hsp H hO hS)) fun r s' h=> ?_
  cases r with
  | error e=>exact(hCX H e s' h).elim
  | ok fl=>
   cases fl with
   | next=>exact cE h
   | brk=>exact cE h
   | cont=>exact cE h
   | ret u=>
    obtain⟨v,H',os,bare,un,hok',r',q⟩:=h
    have q':v= .bl true:=q
    subst q'
    obtain rfl:u=fD true:=r'
    refine⟨rfl,OldK.of_keep fun b o e=> ?_,os,bare⟩
    cases q:H b with
    | none=>exact un.keep b o e q (by intro z; exact absurd (show b∈([]:List Addr)from z) (by simp)) (by simp)
    | some u=>
     rcases hO b with z | ⟨ob,xs,z⟩
     ·rw [q]at z; cases z
     ·have z2:=un.qD b ob _ z
      obtain⟨e1,_⟩:=dO b _ z
      obtain⟨e2,_⟩:=hok' b _ z2
      rw [e]at e1; cases e1
      exact e2
 cases hk:K.lookup a with
 | some o=>
  have e:=KX a o hk
  rw [ha]at e
  cases e
  refine core (fun _=>none) (fun _=> .inl rfl) (.inr ⟨_,vs.toArray,_,hk,rfl,rfl,rfl,by rw [az,lenV]; exact hl,by simpa using rv⟩) (fun b u z=>by have z':(none:Option HO)=some u:=z; cases z') (fun b z=>absurd rfl z) fun z=>absurd rfl z
 | none=>
  refine core (fun b=>if b=a then some (.frz {cls:= .type "list",data:= .seq vs.toArray} (.lst (ns.map V.int)))else none) (fun b=> ?_) (.inl (.inr ⟨{cls:= .type "list",data:= .seq vs.toArray},if_pos rfl⟩)) (fun b u z=> ?_) (fun b z=> ?_) fun _=>hk
  ·by_cases hb:b=a
   ·exact .inr ⟨_,_,if_pos hb⟩
   ·exact .inl (if_neg hb)
  ·by_cases hb:b=a
   ·have z':=(if_pos hb).symm.trans z
    cases z'
    subst hb
    exact⟨ha,by rw [ae]; exact hl,vs,_,rv,ha⟩
   ·have z':=(if_neg hb).symm.trans z
    cases z'
  ·by_cases hb:b=a
   ·exact hb
   ·exact absurd (if_neg hb) z
end L2
namespace L2
open PySem PySem.Spec PyProof.Rows
theorem Gg{l:IM}{n k:Nat}{q:aq}{loose:List Str}{XP:(Str->Option Value)->Heap->Prop}{YP:World->Heap->Prop}{d:DefRec}{K:Params->aL}{CX:World->f9}{sp:World->Sp}{x:Str}
  (hn:l.most=some n)(hn2:n<=sizeLine)(hdf:d.params.defaults= [])(hr:fq k qT)
  (hY: ∀(w:World) (h:Heap),YP w h->(K w.params).In h)
  (F: ∀(w:World) (mg:Str->Option Value) (fa:Addr) (h:Heap),(K w.params).In h->h.Ns bM mg->mg d.name=some (.ref fa)->
   ∃fd:aV,(∀(s:ah) (u:Value),vi s fd ⟨[u], []⟩ [(x,u)])/\
    ∀base:Heap,(K w.params).In base->base.Ns bM mg->mw l.prog w (K w.params) mg base (CX w) k fa fd [x] (sp w))
  (hsp: ∀(w:World) (H:Hp) (a:Addr) (ns:List Int),ns.length<=n->Jt H->ox (K w.params) H a (ns.map V.int)->sp w [.ref a] H (fun v _=>v= .bl true) fun _ _ _=>False)
  (hCX: ∀(w:World) (H:Hp) (s:ah) (e:Value) (s':ah),CX w [] H s (fun _ _ _=>False) e s'->False):
  PySem.W.WalkO q loose XP YP l.row.toRowW d [] (fun f vs=>PySem.call f vs):=by
 refine Att.xn hn hdf fun w s₀ s₁ mg mb fa o pm cd doc a vs ns G Y ho hd hcd hmg hobj hints hlen hg=> ?_
 have KX:=hY w _ Y
 obtain⟨fd,hb,hF⟩:=F w mg fa _ KX G.T.g hmg
 exact Em KX G.T.g G.T.b G.T.builtins G.T.nolimit hg hobj hints (bu hlen hn2) hr hF hb (fun H hO hS=>hsp w H a ns hlen hO hS) fun H e s'=>hCX w H s₁ e s'
end L2
namespace L2
open PySem PySem.Spec PyProof.Rows
def inClass(s:Stmt)(j:Nat):Stmt:=match s with
 | .ClassDef _ _ _ body _ _ _ _ _ _ _=>body.getD j (.Pass ⟨0,0,0,0⟩)
 | _=> .Pass ⟨0,0,0,0⟩
def iL(s:Stmt):Arguments:=match s with
 | .FunctionDef _ a _ _ _ _ _ _ _ _=>a
 | _=>{posonlyargs:= [],args:= [],vararg:=none,kwonlyargs:= [],kw_defaults:= [],kwarg:=none,defaults:= []}
def ba(s:Stmt):List Stmt:=match s with
 | .FunctionDef _ _ b _ _ _ _ _ _ _=>b
 | _=> []
def aF(s:Stmt):Scope:=match s with
 | .FunctionDef _ _ _ _ _ _ sc _ _ _=>sc
 | _=>{kind:= .function,names:= [],isGenerator:=false,isCoroutine:=false}
abbrev E0:XK:=fun _ _ _=>False
structure jo(K:aL)(x qual:Str)(st:Stmt)(f:Addr)(fd:aV):Prop where
 ex: ∃(oc:Value) (od:Option Addr) (kV doc pm:Value) (an:Option Addr) (cdv ct:Value) (osl:Array (Option Value)),
  fd=c5 x qual (iL st) (ba st) (aF st) .none kV doc pm an cdv ct/\K.lookup f=some ⟨oc,od, .func fd,osl⟩/\kS K cdv qual=true
 kp:eY K (.ref f)=true
section
variable {P:aq}{w:World}{K:aL}{mg:Str->Option Value}{base:Heap}
theorem jo.binds{x qual:Str}{st:Stmt}{f:Addr}{fd:aV}{ps:List Str}(F:jo K x qual st f fd)
  (h: ∀(kV doc pm:Value) (an:Option Addr) (cdv ct:Value) (us:List Value),us.length=ps.length->qR (c5 x qual (iL st) (ba st) (aF st) .none kV doc pm an cdv ct) ⟨us, []⟩=pure (ps.zip us)):Binds K fd ps []:=by
 obtain⟨oc,od,kV,doc,pm,an,cdv,ct,osl,rfl,lk,hcd⟩:=F.ex
 exact .all (h kV doc pm an cdv ct)
theorem DM{x qual:Str}{st:Stmt}{f:Addr}{oc:Value}{od an:Option Addr}{osl:Array (Option Value)}{kV doc pm cdv ct:Value}(l:K.lookup f=some ⟨oc,od, .func (c5 x qual (iL st) (ba st) (aF st) .none kV doc pm an cdv ct),osl⟩)
  (c:kS K cdv qual=true)(k:eY K (.ref f)=true):jo K x qual st f (c5 x qual (iL st) (ba st) (aF st) .none kV doc pm an cdv ct):=⟨⟨oc,od,kV,doc,pm,an,cdv,ct,osl,rfl,l,c⟩,k⟩
end
theorem qE{A B:Prop}(h:B):if false=true then A else B:=by
 rw [if_neg aA]
 exact h
theorem sS{A B:Prop}(h:A):if true=true then A else B:=by
 rw [if_pos rfl]
 exact h
def bJ(H H':Hp):Prop:= ∀b o,H b=some o->H' b=some o
theorem bJ.refl(H:Hp):bJ H H:=fun _ _ h=>h
theorem bJ.trans{H H1 H2:Hp}(a:bJ H H1)(b:bJ H1 H2):bJ H H2:=fun c o h=>b c o (a c o h)
theorem bJ.free{H H':Hp}(e:bJ H H'){l:Addr}(h:H' l=Option.none):H l=Option.none:=by
 cases q:H l with
 | none=>rfl
 | some o=>
  rw [e l o q]at h
  cases h
theorem bJ.seq{K:aL}{H H':Hp}{a:Addr}{xs:List V}(e:bJ H H')(h:ox K H a xs):ox K H' a xs:=by
 rcases h with(h | ⟨o,h⟩) | h
 ·exact .inl (.inl (e _ _ h))
 ·exact .inl (.inr ⟨o,e _ _ h⟩)
 ·exact .inr h
end L2
namespace Z
open PySem PySem.Spec PyProof.Rows L2
inductive D where
 | non | bl (b:Bool) | int (i:Int) | str (x:Str)
 | tup (xs:List D) | lst (xs:List D)
 | ins (C:Addr) (ns:List Str) (vs:List D)
 | exc (C:Addr)
 | dct (ks:List D) (ns:List Int)
abbrev St:=L2.St
abbrev MP:=Addr->Prop
abbrev Frag:=aL
def JA:MP:=fun _=>False
def LI(K:Frag)(a:Addr)(xs:List V):Prop:=
 ∃(o:Obj) (its:Array Value) (n:Nat),K.lookup a=some o/\o.cls= .type "list"/\o.dict=none/\o.data= .seq its n/\its.size<=sizeLine/\Vals xs its.toList
def F_(K:Frag)(M:MP)(H:Hp)(a:Addr)(xs:List V):Prop:=(Rd H a (.lst xs)/\ ¬M a)\/LI K a xs
def Df(a C:Addr):HO:= .ext fun h=> ∃o,h.get? a=some o/\o.cls= .ref C/\o.dict=none/\ ∃vs,o.data= .fields vs
mutual
def pb:D->Int
 | .int i=>hashInt i
 | .tup ds=>wO (fk (i7 ds))
 | _=>0
def i7:List D->List Int
 | []=> []
 | d::ds=>pb d::i7 ds
end
def ng:List (Int×Addr×Int)->List dR->Prop
 | [], []=>True
 | x::xs,e::es=>(∃t,e=⟨x.1, .ref x.2.1, .int x.2.2 t⟩)/\ng xs es
 | _,_=>False
def ke(a:Addr)(xs:List (Int×Addr×Int)):HO:= .ext fun h=>(a==iR)=false/\ ∃o es ep,h.get? a=some o/\o.ExactDict/\o.data= .dict es ep/\ng xs es.toList
def pJ(ks:List D)(bs:List Addr)(ns:List Int):List (Int×Addr×Int):=(i7 ks).zip (bs.zip ns)
mutual
def Dn(K:Frag)(M:MP)(H:Hp):D->V->Prop
 | .non,v=>v= .non
 | .bl b,v=>v= .bl b
 | .int i,v=>v= .int i
 | .str x,v=>v= .str x
 | .tup ds,v=> ∃a xs,v= .ref a/\jR K H a xs/\cA K M H ds xs
 | .lst ds,v=> ∃a xs,v= .ref a/\F_ K M H a xs/\cA K M H ds xs
 | .ins C ns ds,v=> ∃a dx fs,v= .ref a/\H a=some (.ins C dx fs)/\fs.map (·.1)=ns/\cA K M H ds (fs.map (·.2))
 | .exc C,v=> ∃a,v= .ref a/\H a=some (Df a C)
 | .dct ks ns,v=> ∃a bs,v= .ref a/\H a=some (ke a (pJ ks bs ns))/\bs.length=ks.length/\ns.length=ks.length/\cA K M H ks (bs.map V.ref)
def cA(K:Frag)(M:MP)(H:Hp):List D->List V->Prop
 | [],xs=>xs= []
 | d::ds,xs=> ∃v r,xs=v::r/\Dn K M H d v/\cA K M H ds r
end
def oG(M:MP)(H H':Hp):Prop:= ∀b o,H b=some o->(∀xs,o= .lst xs-> ¬M b)->H' b=some o
section
variable {K:Frag}{M M':MP}{H H':Hp}{a:Addr}{xs:List V}
theorem o_(s:bJ H H'):oG M H H':=fun b o e _=>s b o e
theorem oG.tup(k:oG M H H')(h:jR K H a xs):jR K H' a xs:=by
 rcases h with(h | ⟨o,h⟩) | h
 ·exact .inl (.inl (k _ _ h (fun _ e=>nomatch e)))
 ·exact .inl (.inr ⟨o,k _ _ h (fun _ e=>nomatch e)⟩)
 ·exact .inr h
theorem oG.sqm(k:oG M H H')(h:F_ K M H a xs):F_ K M H' a xs:=by
 rcases h with⟨h | ⟨o,h⟩,m⟩ | h
 ·exact .inl ⟨.inl (k _ _ h fun _ _=>m),m⟩
 ·exact .inl ⟨.inr ⟨o,k _ _ h (fun _ e=>nomatch e)⟩,m⟩
 ·exact .inr h
theorem F_.l(h:F_ K M H a xs):ox K H a xs:=by
 rcases h with⟨h,_⟩ | h
 ·exact .inl h
 ·exact .inr h
theorem F_.re(hm: ∀a,M' a->M a\/H a=none)(h:F_ K M H a xs):F_ K M' H a xs:=by
 rcases h with⟨h,m⟩ | h
 ·refine .inl ⟨h,fun m'=> ?_⟩
  rcases hm _ m' with z | z
  ·exact m z
  ·rcases h with h | ⟨o,h⟩ <;> (rw [z]at h; cases h)
 ·exact .inr h
mutual
theorem Dn.keep(k:oG M H H'): ∀{d:D} {v:V},Dn K M H d v->Dn K M H' d v
 | .non,_,x=>x
 | .bl _,_,x=>x
 | .int _,_,x=>x
 | .str _,_,x=>x
 | .tup ds,_,⟨a,xs,e,s,r⟩=>⟨a,xs,e,k.tup s,cA.keep k r⟩
 | .lst ds,_,⟨a,xs,e,s,r⟩=>⟨a,xs,e,k.sqm s,cA.keep k r⟩
 | .ins _ _ ds,_,⟨a,dx,fs,e,s,n,r⟩=>⟨a,dx,fs,e,k _ _ s (fun _ e=>nomatch e),n,cA.keep k r⟩
 | .exc _,_,⟨a,e,s⟩=>⟨a,e,k _ _ s (fun _ e=>nomatch e)⟩
 | .dct _ _,_,⟨a,bs,e,s,l1,l2,r⟩=>⟨a,bs,e,k _ _ s (fun _ e=>nomatch e),l1,l2,cA.keep k r⟩
theorem cA.keep(k:oG M H H'): ∀{ds:List D} {vs:List V},cA K M H ds vs->cA K M H' ds vs
 | [],_,x=>x
 | _::_,_,⟨v,r,e,p,q⟩=>⟨v,r,e,Dn.keep k p,cA.keep k q⟩
end
mutual
theorem Dn.re(hm: ∀a,M' a->M a\/H a=none): ∀{d:D} {v:V},Dn K M H d v->Dn K M' H d v
 | .non,_,x=>x
 | .bl _,_,x=>x
 | .int _,_,x=>x
 | .str _,_,x=>x
 | .tup ds,_,⟨a,xs,e,s,r⟩=>⟨a,xs,e,s,cA.re hm r⟩
 | .lst ds,_,⟨a,xs,e,s,r⟩=>⟨a,xs,e,s.re hm,cA.re hm r⟩
 | .ins _ _ ds,_,⟨a,dx,fs,e,s,n,r⟩=>⟨a,dx,fs,e,s,n,cA.re hm r⟩
 | .exc _,_,⟨a,e,s⟩=>⟨a,e,s⟩
 | .dct _ _,_,⟨a,bs,e,s,l1,l2,r⟩=>⟨a,bs,e,s,l1,l2,cA.re hm r⟩
theorem cA.re(hm: ∀a,M' a->M a\/H a=none): ∀{ds:List D} {vs:List V},cA K M H ds vs->cA K M' H ds vs
 | [],_,x=>x
 | _::_,_,⟨v,r,e,p,q⟩=>⟨v,r,e,Dn.re hm p,cA.re hm q⟩
end
theorem Dn.same(s:bJ H H'){d:D}{v:V}(h:Dn K M H d v):Dn K M H' d v:=h.keep (o_ s)
theorem cA.same(s:bJ H H'){d:List D}{v:List V}(h:cA K M H d v):cA K M H' d v:=h.keep (o_ s)
theorem Dn.less(hm: ∀a,M' a->M a){d:D}{v:V}(h:Dn K M H d v):Dn K M' H d v:=h.re fun a z=> .inl (hm a z)
theorem cA.less(hm: ∀a,M' a->M a){d:List D}{v:List V}(h:cA K M H d v):cA K M' H d v:=h.re fun a z=> .inl (hm a z)
theorem Dn.noM{d:D}{v:V}(h:Dn K M H d v):Dn K JA H d v:=h.less fun _ z=>z.elim
theorem cA.len: ∀{ds:List D} {vs:List V},cA K M H ds vs->vs.length=ds.length
 | [],_,x=>by rw [show _= []from x]; rfl
 | _::_,_,⟨v,r,e,p,q⟩=>by rw [e,aH,aH,cA.len q]
theorem cA.app: ∀{ds es:List D} {vs us:List V},cA K M H ds vs->cA K M H es us->cA K M H (ds ++ es) (vs ++ us)
 | [],_,_,_,x,y=>by rw [show _= []from x]; exact y
 | _::_,_,_,_,⟨v,r,e,p,q⟩,y=>by rw [e]; exact⟨v,_,rfl,p,cA.app q y⟩
theorem cA.one{d:D}{v:V}(h:Dn K M H d v):cA K M H [d] [v]:=⟨v, [],rfl,h,rfl⟩
theorem cA.get: ∀{ds:List D} {vs:List V},cA K M H ds vs-> ∀{i:Nat} {d:D},ds[i]? =some d-> ∃v,vs[i]? =some v/\Dn K M H d v
 | [],_,_,_,_,e=>by simp at e
 | _::_,_,⟨v,r,e,p,q⟩,0,d,h=>by simp at h; subst h; rw [e]; exact⟨v,rfl,p⟩
 | _::_,_,⟨v,r,e,p,q⟩,i+1,d,h=>by
  obtain⟨u,h1,h2⟩:=cA.get q (i:=i) (by simpa using h)
  rw [e]; exact⟨u,by simpa using h1,h2⟩
theorem cA.getV: ∀{ds:List D} {vs:List V},cA K M H ds vs-> ∀{i:Nat} {v:V},vs[i]? =some v-> ∃d,ds[i]? =some d/\Dn K M H d v
 | [],_,x,i,v,e=>by rw [show _= []from x]at e; simp at e
 | d::_,_,⟨u,r,e,p,q⟩,0,v,h=>by rw [e]at h; simp at h; subst h; exact⟨d,rfl,p⟩
 | _::_,_,⟨u,r,e,p,q⟩,i+1,v,h=>by
  rw [e]at h
  obtain⟨d,h1,h2⟩:=cA.getV q (i:=i) (by simpa using h)
  exact⟨d,by simpa using h1,h2⟩
theorem cA.take: ∀{ds:List D} {vs:List V} (n:Nat),cA K M H ds vs->cA K M H (ds.take n) (vs.take n)
 | _,_,0,_=>rfl
 | [],_,_+1,x=>by rw [show _= []from x]; rfl
 | _::_,_,n+1,⟨v,r,e,p,q⟩=>by rw [e]; exact⟨v,_,rfl,p,cA.take n q⟩
theorem cA.drop: ∀{ds:List D} {vs:List V} (n:Nat),cA K M H ds vs->cA K M H (ds.drop n) (vs.drop n)
 | _,_,0,x=>x
 | [],_,_+1,x=>by rw [show _= []from x]; rfl
 | _::_,_,n+1,⟨v,r,e,p,q⟩=>by rw [e]; exact cA.drop n q
theorem cA.set{d:D}{v:V}(h:Dn K M H d v): ∀{ds:List D} {vs:List V} (n:Nat),cA K M H ds vs->cA K M H (ds.set n d) (vs.set n v)
 | [],_,_,x=>by rw [show _= []from x]; rfl
 | _::_,_,0,⟨u,r,e,p,q⟩=>by rw [e]; exact⟨v,_,rfl,h,q⟩
 | _::_,_,n+1,⟨u,r,e,p,q⟩=>by rw [e]; exact⟨u,_,rfl,p,cA.set h n q⟩
theorem cA.erase: ∀{ds:List D} {vs:List V} (n:Nat),cA K M H ds vs->cA K M H (ds.eraseIdx n) (vs.eraseIdx n)
 | [],_,_,x=>by rw [show _= []from x]; rfl
 | _::_,_,0,⟨u,r,e,p,q⟩=>by rw [e]; exact q
 | _::_,_,n+1,⟨u,r,e,p,q⟩=>by rw [e]; exact⟨u,_,rfl,p,cA.erase n q⟩
theorem cA.ints: ∀{ns:List Int} {vs:List V},cA K M H (ns.map .int) vs->vs=ns.map V.int
 | [],_,x=>x
 | n::ns,_,⟨u,r,e,p,q⟩=>by rw [e,cA.ints q,show u=V.int n from p]; rfl
theorem cA.of_ints: ∀(ns:List Int),cA K M H (ns.map .int) (ns.map V.int)
 | []=>rfl
 | n::ns=>⟨_,_,rfl,rfl,cA.of_ints ns⟩
end
def pj(K:Frag)(M:MP)(H:Hp):D->V->Prop
 | .lst ds,v=> ∃a xs,v= .ref a/\ox K H a xs/\cA K M H ds xs
 | d,v=>Dn K M H d v
section
variable {K:Frag}{M M':MP}{H H':Hp}
theorem Dn.t{d:D}{v:V}(h:Dn K M H d v):pj K M H d v:=by
 cases d with
 | lst ds=>obtain⟨a,xs,e,s,r⟩:=h; exact⟨a,xs,e,s.l,r⟩
 | _=>exact h
theorem pj.same{d:D}{v:V}(s:bJ H H')(h:pj K M H d v):pj K M H' d v:=by
 cases d with
 | lst ds=>obtain⟨a,xs,e,q,r⟩:=h; exact⟨a,xs,e,s.seq q,r.same s⟩
 | _=>exact Dn.same s h
end
inductive Sl where
 | un | im (d:D) | mu (ds:List D)
abbrev eT:=List Sl
def MM(M0:MP)(ρ:eT)(α:Nat->Addr):MP:=fun a=>M0 a\/ ∃(i:Nat) (ds:List D),ρ[i]? =some (.mu ds)/\α i=a
structure Rep(K:Frag)(M0:MP)(H0:Hp)(γ:List (D×V))(α:Nat->Addr)(ρ:eT)(σ:St)(H:Hp):Prop where
 same:bJ H0 H
 old: ∀a,M0 a->H0 a≠none
 inj: ∀(i j:Nat) (ds es:List D),ρ[i]? =some (.mu ds)->ρ[j]? =some (.mu es)->α i=α j->i=j
 im: ∀(i:Nat) (d:D),ρ[i]? =some (.im d)-> ∃v,σ[i]? =some (some v)/\Dn K (MM M0 ρ α) H d v
 mu: ∀(i:Nat) (ds:List D),ρ[i]? =some (.mu ds)->H0 (α i)=none/\σ[i]? =some (some (.ref (α i)))/\ ∃xs,H (α i)=some (.lst xs)/\cA K (MM M0 ρ α) H ds xs
 gh: ∀p∈γ,Dn K (MM M0 ρ α) H p.1 p.2
 len:σ.length=ρ.length
section
variable {K:Frag}{M0:MP}{H0 H H' H1:Hp}{γ:List (D×V)}{α:Nat->Addr}{ρ:eT}{σ:St}
theorem get_set{α:Type}{l:List α}{i j:Nat}{x y:α}(h:(l.set i x)[j]? =some y):(j=i/\y=x)\/(j≠i/\l[j]? =some y):=by
 rw [fx]at h
 split at h
 ·rename_i e
  split at h
  ·exact .inl ⟨e.symm,(aC h).symm⟩
  ·cases h
 ·rename_i e
  exact .inr ⟨fun z=>e z.symm,h⟩
theorem rk{α:Type}{l:List α}{i:Nat}{x:α}(h:i < l.length):(l.set i x)[i]? =some x:=by
 rw [fx,if_pos rfl,if_pos h]
theorem dY{α:Type}{l:List α}{i j:Nat}{x:α}(h:j≠i):(l.set i x)[j]? =l[j]? :=by
 rw [fx,if_neg fun z=>h z.symm]
theorem k8{i:Nat}{s:Sl}(hs: ∀ds,s≠ .mu ds){a:Addr}(h:MM M0 (ρ.set i s) α a):MM M0 ρ α a:=by
 rcases h with h | ⟨j,ds,e,z⟩
 ·exact .inl h
 ·rcases get_set e with⟨_,q⟩ | ⟨_,q⟩
  ·exact absurd q.symm (hs ds)
  ·exact .inr ⟨j,ds,q,z⟩
theorem Rep.next(r:Rep K M0 H0 γ α ρ σ H)(s:bJ H H'):Rep K M0 H0 γ α ρ σ H':=
 ⟨r.same.trans s,r.old,r.inj,fun i d e=>let⟨v,h1,h2⟩:=r.im i d e; ⟨v,h1,h2.same s⟩,
  fun i ds e=>let⟨h1,h2,xs,h3,h4⟩:=r.mu i ds e; ⟨h1,h2,xs,s _ _ h3,h4.same s⟩,fun p hp=>(r.gh p hp).same s,r.len⟩
theorem Rep.ghost{d:D}{v:V}(r:Rep K M0 H0 γ α ρ σ H)(h:Dn K (MM M0 ρ α) H d v):Rep K M0 H0 ((d,v)::γ) α ρ σ H:=
 ⟨r.same,r.old,r.inj,r.im,r.mu,fun p hp=>(aK.mp hp).elim (fun z=>by rw [z]; exact h) fun z=>r.gh p z,r.len⟩
theorem Rep.unghost{p:D×V}(r:Rep K M0 H0 (p::γ) α ρ σ H):Rep K M0 H0 γ α ρ σ H:=
 ⟨r.same,r.old,r.inj,r.im,r.mu,fun q hq=>r.gh q (cb _ hq),r.len⟩
theorem Rep.set_im{i:Nat}{d:D}{v:V}(r:Rep K M0 H0 γ α ρ σ H)(hi:i < ρ.length)(h:Dn K (MM M0 ρ α) H d v):Rep K M0 H0 γ α (ρ.set i (.im d)) (σ.set i (some v)) H:=by
 have lm: ∀a,MM M0 (ρ.set i (.im d)) α a->MM M0 ρ α a:=fun a=>k8 (by intro _ e; cases e)
 refine⟨r.same,r.old,fun j k ds es e1 e2=> ?_,fun j e q=> ?_,fun j ds q=> ?_,fun p hp=>(r.gh p hp).less lm,by rw [bA,bA,r.len]⟩
 ·rcases get_set e1 with⟨_,z⟩ | ⟨_,z1⟩
  ·cases z
  ·rcases get_set e2 with⟨_,z⟩ | ⟨_,z2⟩
   ·cases z
   ·exact r.inj j k ds es z1 z2
 ·rcases get_set q with⟨rfl,z⟩ | ⟨n,z⟩
  ·cases z
   exact⟨v,rk (by rw [r.len]; exact hi),h.less lm⟩
  ·obtain⟨u,h1,h2⟩:=r.im j e z
   exact⟨u,by rw [dY n]; exact h1,h2.less lm⟩
 ·rcases get_set q with⟨rfl,z⟩ | ⟨n,z⟩
  ·cases z
  ·obtain⟨h1,h2,xs,h3,h4⟩:=r.mu j ds z
   exact⟨h1,by rw [dY n]; exact h2,xs,h3,h4.less lm⟩
theorem Rep.forget{i:Nat}(r:Rep K M0 H0 γ α ρ σ H){ov:Option V}:Rep K M0 H0 γ α (ρ.set i .un) (σ.set i ov) H:=by
 have lm: ∀a,MM M0 (ρ.set i .un) α a->MM M0 ρ α a:=fun a=>k8 (by intro _ e; cases e)
 refine⟨r.same,r.old,fun j k ds es e1 e2=> ?_,fun j e q=> ?_,fun j ds q=> ?_,fun p hp=>(r.gh p hp).less lm,by rw [bA,bA,r.len]⟩
 ·rcases get_set e1 with⟨_,z⟩ | ⟨_,z1⟩
  ·cases z
  ·rcases get_set e2 with⟨_,z⟩ | ⟨_,z2⟩
   ·cases z
   ·exact r.inj j k ds es z1 z2
 ·rcases get_set q with⟨rfl,z⟩ | ⟨n,z⟩
  ·cases z
  ·obtain⟨u,h1,h2⟩:=r.im j e z
   exact⟨u,by rw [dY n]; exact h1,h2.less lm⟩
 ·rcases get_set q with⟨rfl,z⟩ | ⟨n,z⟩
  ·cases z
  ·obtain⟨h1,h2,xs,h3,h4⟩:=r.mu j ds z
   exact⟨h1,by rw [dY n]; exact h2,xs,h3,h4.less lm⟩
theorem Rep.drop1{i:Nat}(r:Rep K M0 H0 γ α ρ σ H):Rep K M0 H0 γ α (ρ.set i .un) σ H:=by
 have h:=r.forget (i:=i) (ov:=(σ[i]?).join)
 have e:σ.set i (σ[i]?).join=σ:=by
  apply fy
  intro j
  rw [fx]
  split
  ·rename_i e
   subst e
   split
   ·rename_i h
    rw [ai h]
    rfl
   ·rename_i h
    rw [bq (tY h)]
  ·rfl
 rwa [e]at h
def EY(α:Nat->Addr)(i:Nat)(l:Addr):Nat->Addr:=fun j=>if j=i then l else α j
theorem m_{i:Nat}{l:Addr}:EY α i l i=l:=if_pos rfl
theorem kq{i j:Nat}{l:Addr}(h:j≠i):EY α i l j=α j:=if_neg h
theorem Rep.set_mu{i:Nat}{l:Addr}{xs:List V}{ds:List D}(r:Rep K M0 H0 γ α ρ σ H1)(hi:i < ρ.length)(hl:H1 l=none)(s:bJ H1 H)(h:H l=some (.lst xs))
  (hd:cA K (fun a=>MM M0 ρ α a\/a=l) H ds xs):Rep K M0 H0 γ (EY α i l) (ρ.set i (.mu ds)) (σ.set i (some (.ref l))) H:=by
 have lm: ∀a,MM M0 (ρ.set i (.mu ds)) (EY α i l) a->MM M0 ρ α a\/a=l:=fun a z=>by
  rcases z with z | ⟨j,es,e,z⟩
  ·exact .inl (.inl z)
  ·rcases get_set e with⟨rfl,q⟩ | ⟨n,q⟩
   ·rw [m_]at z; exact .inr z.symm
   ·rw [kq n]at z; exact .inl (.inr ⟨j,es,q,z⟩)
 have lm': ∀a,MM M0 (ρ.set i (.mu ds)) (EY α i l) a->MM M0 ρ α a\/H1 a=none:=fun a z=>by
  rcases lm a z with z | rfl
  ·exact .inl z
  ·exact .inr hl
 refine⟨r.same.trans s,r.old,fun j k es fs e1 e2 ej=> ?_,fun j e q=> ?_,fun j es q=> ?_,fun p hp=>((r.gh p hp).re lm').same s,by rw [bA,bA,r.len]⟩
 ·have nl: ∀(k:Nat) (es:List D),ρ[k]? =some (Sl.mu es)->α k≠l:=fun k es z e=>by
   obtain⟨_,_,ys,h3,_⟩:=r.mu k es z
   rw [e,hl]at h3; cases h3
  rcases get_set e1 with⟨rfl,z⟩ | ⟨n1,z1⟩
  ·rcases get_set e2 with⟨rfl,z⟩ | ⟨n2,z2⟩
   ·rfl
   ·rw [m_,kq n2]at ej; exact absurd ej.symm (nl k fs z2)
  ·rcases get_set e2 with⟨rfl,z⟩ | ⟨n2,z2⟩
   ·rw [m_,kq n1]at ej; exact absurd ej (nl j es z1)
   ·rw [kq n1,kq n2]at ej; exact r.inj j k es fs z1 z2 ej
 ·rcases get_set q with⟨rfl,z⟩ | ⟨n,z⟩
  ·cases z
  ·obtain⟨u,h1,h2⟩:=r.im j e z
   exact⟨u,by rw [dY n]; exact h1,(h2.re lm').same s⟩
 ·rcases get_set q with⟨rfl,z⟩ | ⟨n,z⟩
  ·cases z
   exact⟨by rw [m_]; exact r.same.free hl,by rw [m_]; exact rk (by rw [r.len]; exact hi),xs,by rw [m_]; exact h,hd.less lm⟩
  ·obtain⟨h1,h2,ys,h3,h4⟩:=r.mu j es z
   exact⟨by rw [kq n]; exact h1,by rw [dY n,kq n]; exact h2,ys,by rw [kq n]; exact s _ _ h3,(h4.re lm').same s⟩
theorem g9{l:Addr}{o:HO}(s:bJ H0 H)(h:H0 l=none):bJ H0 (upd H l o):=fun b u e=>by
 rw [ck (fI e h)]; exact s b u e
theorem bt{l:Addr}{o:HO}(h:H l=none):bJ H (upd H l o):=g9 (bJ.refl H) h
theorem Rep.upd_mu{i:Nat}{ds es:List D}{ys:List V}(r:Rep K M0 H0 γ α ρ σ H)(hi:ρ[i]? =some (.mu ds))(hd:cA K (MM M0 ρ α) H es ys):Rep K M0 H0 γ α (ρ.set i (.mu es)) σ (upd H (α i) (.lst ys)):=by
 obtain⟨a1,a2,xs,a3,a4⟩:=r.mu i ds hi
 have hlt:i < ρ.length:=(aD.mp hi).1
 have me: ∀(j:Nat) (es':List D),(ρ.set i (Sl.mu es))[j]? =some (Sl.mu es')-> ∃fs,ρ[j]? =some (Sl.mu fs):=fun j es' e=>by
  rcases get_set e with⟨rfl,_⟩ | ⟨_,q⟩
  ·exact⟨ds,hi⟩
  ·exact⟨es',q⟩
 have lm: ∀a,MM M0 (ρ.set i (.mu es)) α a->MM M0 ρ α a:=fun a z=>by
  rcases z with z | ⟨j,es',e,z⟩
  ·exact .inl z
  ·obtain⟨fs,q⟩:=me j es' e
   exact .inr ⟨j,fs,q,z⟩
 have kp:oG (MM M0 ρ α) H (upd H (α i) (.lst ys)):=fun b o e n=>by
  by_cases hb:b=α i
  ·subst hb
   rw [a3]at e; cases e
   exact absurd (.inr ⟨i,ds,hi,rfl⟩) (n _ rfl)
  ·rw [ck hb]; exact e
 refine⟨g9 r.same a1,r.old,fun j k f1 f2 e1 e2=> ?_,fun j e q=> ?_,fun j f q=> ?_,fun p hp=>((r.gh p hp).keep kp).less lm,by rw [bA,r.len]⟩
 ·obtain⟨g1,z1⟩:=me j f1 e1
  obtain⟨g2,z2⟩:=me k f2 e2
  exact r.inj j k g1 g2 z1 z2
 ·rcases get_set q with⟨rfl,z⟩ | ⟨n,z⟩
  ·cases z
  ·obtain⟨u,h1,h2⟩:=r.im j e z
   exact⟨u,h1,(h2.keep kp).less lm⟩
 ·rcases get_set q with⟨rfl,z⟩ | ⟨n,z⟩
  ·cases z
   exact⟨a1,a2,ys,bC,(hd.keep kp).less lm⟩
  ·obtain⟨h1,h2,zs,h3,h4⟩:=r.mu j f z
   refine⟨h1,h2,zs, ?_,(h4.keep kp).less lm⟩
   rw [ck fun e=>n (r.inj j i f ds z hi e)]; exact h3
theorem Rep.freeze{i:Nat}{ds:List D}(r:Rep K M0 H0 γ α ρ σ H)(hi:ρ[i]? =some (.mu ds)):Rep K M0 H0 γ α (ρ.set i (.im (.lst ds))) σ H:=by
 obtain⟨a1,a2,xs,a3,a4⟩:=r.mu i ds hi
 have lm: ∀a,MM M0 (ρ.set i (.im (.lst ds))) α a->MM M0 ρ α a:=fun a=>k8 (by intro _ e; cases e)
 refine⟨r.same,r.old,fun j k d1 d2 e1 e2=> ?_,fun j e q=> ?_,fun j es q=> ?_,fun p hp=>(r.gh p hp).less lm,by rw [bA,r.len]⟩
 ·rcases get_set e1 with⟨_,z⟩ | ⟨_,z1⟩
  ·cases z
  ·rcases get_set e2 with⟨_,z⟩ | ⟨_,z2⟩
   ·cases z
   ·exact r.inj j k d1 d2 z1 z2
 ·rcases get_set q with⟨rfl,z⟩ | ⟨n,z⟩
  ·cases z
   refine⟨_,a2,α j,xs,rfl, .inl ⟨.inl a3,fun m=> ?_⟩,a4.less lm⟩
   rcases m with m | ⟨k,es,e,m⟩
   ·exact r.old _ m a1
   ·rcases get_set e with⟨_,z⟩ | ⟨n,z⟩
    ·cases z
    ·exact n (r.inj k j es ds z hi m)
  ·obtain⟨u,h1,h2⟩:=r.im j e z
   exact⟨u,h1,h2.less lm⟩
 ·rcases get_set q with⟨rfl,z⟩ | ⟨n,z⟩
  ·cases z
  ·obtain⟨h1,h2,ys,h3,h4⟩:=r.mu j es z
   exact⟨h1,h2,ys,h3,h4.less lm⟩
end
section
variable {X:Cx}{e:Expr}{es:List Expr}{st:Stmt}{sts:List Stmt}{σ:St}{H:Hp}
def tE(X:Cx)(e:Expr):TE:=fun σ H Q=> ∀(pins:List (Addr×Obj)) (s:ah),Inv X pins σ H s->wpAny (model X.prog X.w) X.A (eval e X.env) (EP X pins σ Q) X.xe s
def tT(X:Cx)(e:Expr):TT:=fun σ H Q=> ∀(pins:List (Addr×Obj)) (s:ah),Inv X pins σ H s->wpAny (model X.prog X.w) X.A (isTrue e X.env (eval e X.env)) (TP X pins σ Q) X.xe s
def tW(X:Cx)(e:Expr):TT:=fun σ H Q=> ∀(whole:Sem Value) (pins:List (Addr×Obj)) (s:ah),Inv X pins σ H s->wpAny (model X.prog X.w) X.A (isTrue e X.env whole) (TP X pins σ Q) X.xe s
def tA(X:Cx)(es:List Expr):TA:=fun σ H Q=> ∀(pos:Pos) (pins:List (Addr×Obj)) (s:ah),Inv X pins σ H s->wpAny (model X.prog X.w) X.A (spliced (dZ pos (ar es X.env))) (AP X pins σ Q) X.xe s
def tS(X:Cx)(st:Stmt):TS:=fun D σ H=> ∀(pins:List (Addr×Obj)) (s:ah),Inv X pins σ H s->wpAny (model X.prog X.w) X.A (exec st X.env) (SP X pins D) X.xe s
def nj(X:Cx)(st:List Stmt):TS:=fun D σ H=> ∀(pins:List (Addr×Obj)) (s:ah),Inv X pins σ H s->wpAny (model X.prog X.w) X.A (execs st X.env) (SP X pins D) X.xe s
theorem g7:PE X e (tE X e):=fun pins s σ H Q I h=>h pins s I
theorem CB:PT X e (tT X e):=fun pins s σ H Q I h=>h pins s I
theorem LN:PW X e (tW X e):=fun w pins s σ H Q I h=>h w pins s I
theorem wu:PA X es (tA X es):=fun p pins s σ H Q I h=>h p pins s I
theorem sN:PS X st (tS X st):=fun pins s σ H Q I h=>h pins s I
theorem fK:zl X sts (nj X sts):=fun pins s σ H Q I h=>h pins s I
theorem _root_.L2.PE.to{t:TE}{Q:VK}(h:PE X e t)(q:t σ H Q):tE X e σ H Q:=fun pins s I=>h pins s σ H Q I q
theorem _root_.L2.PT.to{t:TT}{Q:Bool->Hp->Prop}(h:PT X e t)(q:t σ H Q):tT X e σ H Q:=fun pins s I=>h pins s σ H Q I q
theorem _root_.L2.PW.to{t:TT}{Q:Bool->Hp->Prop}(h:PW X e t)(q:t σ H Q):tW X e σ H Q:=fun w pins s I=>h w pins s σ H Q I q
theorem _root_.L2.PA.to{t:TA}{Q:List V->Hp->Prop}(h:PA X es t)(q:t σ H Q):tA X es σ H Q:=fun p pins s I=>h p pins s σ H Q I q
theorem _root_.L2.PS.to{t:TS}{D:Ends}(h:PS X st t)(q:t D σ H):tS X st D σ H:=fun pins s I=>h pins s σ H D I q
theorem _root_.L2.zl.to{t:TS}{D:Ends}(h:zl X sts t)(q:t D σ H):nj X sts D σ H:=fun pins s I=>h pins s σ H D I q
end
def av(X:Cx)(ρ:eT)(e:Expr)(d:D):Prop:= ∀(M0:MP) (H0:Hp) (γ:List (D×V)) (α:Nat->Addr) (σ:St) (H:Hp) (Q:VK),Rep X.K M0 H0 γ α ρ σ H->
 (∀v H',bJ H H'->Dn X.K (MM M0 ρ α) H' d v->Q v H')->tE X e σ H Q
def lZ(X:Cx)(ρ:eT)(e:Expr)(d:D):Prop:= ∀(M0:MP) (H0:Hp) (γ:List (D×V)) (α:Nat->Addr) (σ:St) (H:Hp) (Q:VK),Rep X.K M0 H0 γ α ρ σ H->
 (∀v H',bJ H H'->pj X.K (MM M0 ρ α) H' d v->Q v H')->tE X e σ H Q
def dP(X:Cx)(ρ:eT)(e:Expr)(ds:List D):Prop:= ∀(M0:MP) (H0:Hp) (γ:List (D×V)) (α:Nat->Addr) (σ:St) (H:Hp) (Q:VK),Rep X.K M0 H0 γ α ρ σ H->
 (∀l xs H1 H',bJ H H1->H1 l=none->bJ H1 H'->H' l=some (.lst xs)->cA X.K (fun a=>MM M0 ρ α a\/a=l) H' ds xs->Q (.ref l) H')->tE X e σ H Q
def cG(X:Cx)(ρ:eT)(e:Expr)(b:Bool):Prop:= ∀(M0:MP) (H0:Hp) (γ:List (D×V)) (α:Nat->Addr) (σ:St) (H:Hp) (Q:Bool->Hp->Prop),Rep X.K M0 H0 γ α ρ σ H->
 (∀H',bJ H H'->Q b H')->tT X e σ H Q
def i5(X:Cx)(ρ:eT)(e:Expr)(b:Bool):Prop:= ∀(M0:MP) (H0:Hp) (γ:List (D×V)) (α:Nat->Addr) (σ:St) (H:Hp) (Q:Bool->Hp->Prop),Rep X.K M0 H0 γ α ρ σ H->
 (∀H',bJ H H'->Q b H')->tW X e σ H Q
def aP(X:Cx)(ρ:eT)(es:List Expr)(ds:List D):Prop:= ∀(M0:MP) (H0:Hp) (γ:List (D×V)) (α:Nat->Addr) (σ:St) (H:Hp) (Q:List V->Hp->Prop),Rep X.K M0 H0 γ α ρ σ H->
 (∀vs H',bJ H H'->cA X.K (MM M0 ρ α) H' ds vs->Q vs H')->tA X es σ H Q
def xJ(K:Frag)(M:MP)(H:Hp):List D->List V->Prop
 | [],xs=>xs= []
 | d::ds,xs=> ∃v r,xs=v::r/\pj K M H d v/\xJ K M H ds r
def ue(X:Cx)(ρ:eT)(es:List Expr)(ds:List D):Prop:= ∀(M0:MP) (H0:Hp) (γ:List (D×V)) (α:Nat->Addr) (σ:St) (H:Hp) (Q:List V->Hp->Prop),Rep X.K M0 H0 γ α ρ σ H->
 (∀vs H',bJ H H'->xJ X.K (MM M0 ρ α) H' ds vs->Q vs H')->tA X es σ H Q
section
variable {X:Cx}{ρ:eT}{e a b:Expr}{es:List Expr}{d:D}{ds:List D}{pos p:Pos}
theorem av.r(h:av X ρ e d):lZ X ρ e d:=fun M0 H0 γ α σ H Q R k=>h M0 H0 γ α σ H Q R fun v H' s x=>k v H' s x.t
theorem dP.toD(h:dP X ρ e ds):av X ρ e (.lst ds):=fun M0 H0 γ α σ H Q R k=>h M0 H0 γ α σ H Q R fun l xs H1 H' s n s' x y=>
 k _ H' (s.trans s') ⟨l,xs,rfl, .inl ⟨.inl x,fun m=>by
  rcases m with m | ⟨i,es,e,m⟩
  ·exact R.old _ m (R.same.free (s.free n))
  ·obtain⟨_,_,ys,h3,_⟩:=R.mu i es e
   rw [m]at h3
   have:=s _ _ h3
   rw [n]at this; cases this⟩,y.less fun a m=> .inl m⟩
theorem av.to{d':D}(h:av X ρ e d)(q:d=d'):av X ρ e d':=q▸h
theorem cG.to{c c':Bool}(h:cG X ρ e c)(q:c=c'):cG X ρ e c':=q▸h
theorem av.int{i:Int}{j}:av X ρ (.Constant (.int i) j pos) (.int i):=fun _ _ _ _ _ H _ _ k=>J8.to (k _ H (bJ.refl _) rfl)
theorem av.bl{i:Bool}{j}:av X ρ (.Constant (.bool i) j pos) (.bl i):=fun _ _ _ _ _ H _ _ k=>K3.to (k _ H (bJ.refl _) rfl)
theorem av.non{j}:av X ρ (.Constant .none j pos) .non:=fun _ _ _ _ _ H _ _ k=>J5.to (k _ H (bJ.refl _) rfl)
theorem av.str{x:Str}{j}:av X ρ (.Constant (.str x) j pos) (.str x):=fun _ _ _ _ _ H _ _ k=>JU.to (k _ H (bJ.refl _) rfl)
theorem av.name{x:Str}(i:Nat)(hN:X.N[i]? =some x)(hv:yy X.env.scope x)(hρ:ρ[i]? =some (.im d))(hd:(x==("__debug__":Str))=false:=by decide)(hcd:(x==("__classdict__":Str))=false:=by decide):av X ρ (.Name x pos) d:=
 fun _ _ _ _ _ H _ R k=>(lU hN hv hd hcd).to (let⟨v,h1,h2⟩:=R.im i d hρ; ⟨v,h1,k v H (bJ.refl _) h2⟩)
theorem lZ.name{x:Str}(i:Nat)(hN:X.N[i]? =some x)(hv:yy X.env.scope x)(hρ:ρ[i]? =some (.mu ds))(hd:(x==("__debug__":Str))=false:=by decide)(hcd:(x==("__classdict__":Str))=false:=by decide):lZ X ρ (.Name x pos) (.lst ds):=
 fun _ _ _ α _ H _ R k=>(lU hN hv hd hcd).to (let⟨_,h1,xs,h3,h4⟩:=R.mu i ds hρ; ⟨_,h1,k _ H (bJ.refl _) ⟨α i,xs,rfl,ox.of h3,h4⟩⟩)
theorem av.glob{x:Str}{v:V}{u:Value}(hg:Gl X x)(hm:X.mg x=some u)(r:RelV v u)(hn: ∀M H,Dn X.K M H d v)(hd:(x==("__debug__":Str))=false:=by decide):av X ρ (.Name x pos) d:=
 fun _ _ _ _ _ H _ _ k=>(A3 hg hm r hd).to (k _ H (bJ.refl _) (hn _ _))
theorem aP.nil:aP X ρ [] []:=fun _ _ _ _ _ H _ _ k=>gG.to (k _ H (bJ.refl _) rfl)
theorem aP.cons(h:av X ρ e d)(t:aP X ρ es ds)(hs:ar (e::es) X.env=(false,eval e X.env)::ar es X.env:=by rfl):aP X ρ (e::es) (d::ds):=
 fun M0 H0 γ α σ H Q R k=>(dG g7 wu hs).to (h M0 H0 γ α σ H _ R fun v H1 s1 d1=>t M0 H0 γ α σ H1 _ (R.next s1) fun vs H2 s2 d2=>k _ H2 (s1.trans s2) ⟨v,vs,rfl,d1.same s2,d2⟩)
theorem ue.nil:ue X ρ [] []:=fun _ _ _ _ _ H _ _ k=>gG.to (k _ H (bJ.refl _) rfl)
theorem ue.cons(h:lZ X ρ e d)(t:ue X ρ es ds)(hs:ar (e::es) X.env=(false,eval e X.env)::ar es X.env:=by rfl):ue X ρ (e::es) (d::ds):=
 fun M0 H0 γ α σ H Q R k=>(dG g7 wu hs).to (h M0 H0 γ α σ H _ R fun v H1 s1 d1=>t M0 H0 γ α σ H1 _ (R.next s1) fun vs H2 s2 d2=>k _ H2 (s1.trans s2) ⟨v,vs,rfl,d1.same s2,d2⟩)
theorem jE{n:Nat}(h:n<=1000000):n<=sizeLine:=bu h (by decide)
theorem av.tup{x1}(h:aP X ρ es ds)(hl:ds.length<=1000000:=by exact jr rfl):av X ρ (.Tuple es x1 pos) (.tup ds):=
 fun M0 H0 γ α σ H Q R k=>(E4 wu).to (h M0 H0 γ α σ H _ R fun vs H1 s1 d1=>⟨by rw [d1.len]; exact jE hl,fun q hq=>
  k _ _ (s1.trans (bt hq)) ⟨q,vs,rfl,jR.of bC,d1.same (bt hq)⟩⟩)
theorem rG{K:Frag}{M:MP}{H:Hp}{l:Addr}{ds:List D}{vs:List V}(hl:H l=none)(h:cA K M H ds vs):cA K (fun a=>M a\/a=l) H ds vs:=
 h.re fun a m=>m.elim .inl fun z=> .inr (by rw [z]; exact hl)
theorem dP.lst(h:aP X ρ es ds)(hl:ds.length<=1000000:=by exact jr rfl):dP X ρ (.List es pos) ds:=
 fun M0 H0 γ α σ H Q R k=>(Jg wu).to (h M0 H0 γ α σ H _ R fun vs H1 s1 d1=>⟨by rw [d1.len]; exact jE hl,fun q hq=>
  k q vs H1 _ s1 hq (bt hq) bC ((rG hq d1).same (bt hq))⟩)
theorem av.op2{op:Operator}{r:R2}{da db:D}(ho:nX X (jG op) r)(ha:lZ X ρ a da)(hb:lZ X ρ b db)
  (hr: ∀(M:MP) (H:Hp) (x y:V) (Q:VK),pj X.K M H da x->pj X.K M H db y->(∀v H',bJ H H'->Dn X.K M H' d v->Q v H')->r x y H Q):av X ρ (.BinOp a op b pos) d:=
 fun M0 H0 γ α σ H Q R k=>(DP ho g7 g7).to (ha M0 H0 γ α σ H _ R fun v H1 s1 d1=>hb M0 H0 γ α σ H1 _ (R.next s1) fun u H2 s2 d2=>hr _ H2 v u Q (d1.same s2) d2 fun w' H3 s3 d3=>k w' H3 ((s1.trans s2).trans s3) d3)
theorem av.add{i j:Int}(ha:av X ρ a (.int i))(hb:av X ρ b (.int j)):av X ρ (.BinOp a .Add b pos) (.int (i+j)):=
 av.op2 JJ ha.r hb.r fun M H x y Q dx dy k=>⟨i,j,dx,dy,k _ H (bJ.refl _) rfl⟩
theorem av.sub{i j:Int}(ha:av X ρ a (.int i))(hb:av X ρ b (.int j)):av X ρ (.BinOp a .Sub b pos) (.int (i - j)):=
 av.op2 Jo ha.r hb.r fun M H x y Q dx dy k=>⟨i,j,dx,dy,k _ H (bJ.refl _) rfl⟩
theorem av.mul{i j:Int}(ha:av X ρ a (.int i))(hb:av X ρ b (.int j))(hc:Ha i j):av X ρ (.BinOp a .Mult b pos) (.int (i * j)):=
 av.op2 JC ha.r hb.r fun M H x y Q dx dy k=>⟨i,j,dx,dy,hc,k _ H (bJ.refl _) rfl⟩
theorem av.mod{i j:Int}(ha:av X ρ a (.int i))(hb:av X ρ b (.int j))(hc:0 < j):av X ρ (.BinOp a .Mod b pos) (.int (i % j)):=
 av.op2 Kb ha.r hb.r fun M H x y Q dx dy k=>⟨i,j,dx,dy,hc,k _ H (bJ.refl _) rfl⟩
theorem av.fdiv{i j:Int}(ha:av X ρ a (.int i))(hb:av X ρ b (.int j))(hc:K2 i j):av X ρ (.BinOp a .FloorDiv b pos) (.int (i / j)):=
 av.op2 GV ha.r hb.r fun M H x y Q dx dy k=>⟨i,j,dx,dy,hc,k _ H (bJ.refl _) rfl⟩
theorem av.neg{i:Int}(ha:av X ρ a (.int i)):av X ρ (.UnaryOp .USub a pos) (.int (-i)):=
 fun M0 H0 γ α σ H Q R k=>(Ll Js g7).to (ha M0 H0 γ α σ H _ R fun v H1 s1 d1=>⟨i,d1,k _ H1 s1 rfl⟩)
theorem av.cmp{op:CmpOp}{r:R2}{da db:D}{c:Bool}(ho:nX X (cC op) r)(ha:lZ X ρ a da)(hb:lZ X ρ b db)(hm:fE op b=false)
  (hr: ∀(M:MP) (H:Hp) (x y:V) (Q:VK),pj X.K M H da x->pj X.K M H db y->Q (.bl c) H->r x y H Q):av X ρ (.Compare a [op] [b] pos) (.bl c):=
 fun M0 H0 γ α σ H Q R k=>(Hi ho g7 g7 hm).to (ha M0 H0 γ α σ H _ R fun v H1 s1 d1=>hb M0 H0 γ α σ H1 _ (R.next s1) fun u H2 s2 d2=>hr _ H2 v u Q (d1.same s2) d2 (k _ H2 (s1.trans s2) rfl))
theorem cG.cmp{op:CmpOp}{r:R2}{da db:D}{c:Bool}(ho:nX X (cC op) r)(ha:lZ X ρ a da)(hb:lZ X ρ b db)(hm:fE op b=false)
  (hr: ∀(M:MP) (H:Hp) (x y:V) (Q:VK),pj X.K M H da x->pj X.K M H db y->Q (.bl c) H->r x y H Q):cG X ρ (.Compare a [op] [b] pos) c:=
 fun M0 H0 γ α σ H Q R k=>(As ho g7 g7 hm).to (ha M0 H0 γ α σ H _ R fun v H1 s1 d1=>hb M0 H0 γ α σ H1 _ (R.next s1) fun u H2 s2 d2=>hr _ H2 v u _ (d1.same s2) d2 ⟨c,rfl,k H2 (s1.trans s2)⟩)
inductive CI:CmpOp->(Int->Int->Bool)->Prop where
 | lt:CI .Lt fun i j=>decide (i < j)
 | le:CI .LtE fun i j=>decide (i<=j)
 | gt:CI .Gt fun i j=>decide (j < i)
 | ge:CI .GtE fun i j=>decide (j<=i)
 | eq:CI .Eq fun i j=>decide (i=j)
 | ne:CI .NotEq fun i j=> !decide (i=j)
theorem xD{i j:Int}:decide (V.int i=V.int j)=decide (i=j):=by
 by_cases h:i=j
 ·subst h; simp
 ·rw [decide_eq_false h,decide_eq_false fun q=>h (by injection q)]
theorem CI.op{op:CmpOp}{g:Int->Int->Bool}(h:CI op g):nX X (cC op) (Hu fun i j=> .bl (g i j)):=by
 cases h with
 | lt=>exact Le
 | le=>exact KD
 | gt=>exact Kw
 | ge=>exact Ld
 | eq=>
  intro pins s σ H x y v u Q I rx ry ⟨i,j,ex,ey,q⟩
  subst ex; subst ey
  exact Ks pins s σ H _ _ v u Q I rx ry ⟨rfl,by rw [xD]; exact q⟩
 | ne=>
  intro pins s σ H x y v u Q I rx ry ⟨i,j,ex,ey,q⟩
  subst ex; subst ey
  exact Kr pins s σ H _ _ v u Q I rx ry ⟨rfl,by rw [xD]; exact q⟩
theorem CI.mark{op:CmpOp}{g:Int->Int->Bool}(h:CI op g)(b:Expr):fE op b=false:=by cases h <;> exact wa b
theorem av.cI{op:CmpOp}{g:Int->Int->Bool}{i j:Int}(hc:CI op g)(ha:av X ρ a (.int i))(hb:av X ρ b (.int j)):av X ρ (.Compare a [op] [b] pos) (.bl (g i j)):=
 av.cmp hc.op ha.r hb.r (hc.mark b) fun M H x y Q dx dy k=>⟨i,j,dx,dy,k⟩
theorem cG.cI{op:CmpOp}{g:Int->Int->Bool}{i j:Int}(hc:CI op g)(ha:av X ρ a (.int i))(hb:av X ρ b (.int j)):cG X ρ (.Compare a [op] [b] pos) (g i j):=
 cG.cmp hc.op ha.r hb.r (hc.mark b) fun M H x y Q dx dy k=>⟨i,j,dx,dy,k⟩
theorem av.chain{op op':CmpOp}{g g':Int->Int->Bool}{c:Expr}{i j k:Int}(h1:CI op g)(h2:CI op' g')(ha:av X ρ a (.int i))(hb:av X ρ b (.int j))(hc:av X ρ c (.int k))
  (hm:lastMarks [op,op'] [b,c]=false:=by with_unfolding_all rfl):av X ρ (.Compare a [op,op'] [b,c] pos) (.bl (g i j&&g' j k)):=
 fun M0 H0 γ α σ H Q R kk=>(Et h1.op h2.op g7 g7 g7 hm).to (ha M0 H0 γ α σ H _ R fun v H1 s1 d1=>hb M0 H0 γ α σ H1 _ (R.next s1) fun u H2 s2 d2=>⟨i,j,d1,d2,g i j,rfl,by
  cases e:g i j with
  | true=>exact sS (hc M0 H0 γ α σ H2 _ ((R.next s1).next s2) fun z H3 s3 d3=>⟨j,k,d2,d3,by have:=kk (.bl (g' j k)) H3 ((s1.trans s2).trans s3); rw [e]at this; exact this rfl⟩)
  | false=>exact qE (by have:=kk (.bl false) H2 (s1.trans s2); rw [e]at this; exact this rfl)⟩)
theorem cG.chain{op op':CmpOp}{g g':Int->Int->Bool}{c:Expr}{i j k:Int}(h1:CI op g)(h2:CI op' g')(ha:av X ρ a (.int i))(hb:av X ρ b (.int j))(hc:av X ρ c (.int k))
  (hm:lastMarks [op,op'] [b,c]=false:=by with_unfolding_all rfl):cG X ρ (.Compare a [op,op'] [b,c] pos) (g i j&&g' j k):=
 fun M0 H0 γ α σ H Q R kk=>(CU h1.op h2.op g7 g7 g7 hm).to (ha M0 H0 γ α σ H _ R fun v H1 s1 d1=>hb M0 H0 γ α σ H1 _ (R.next s1) fun u H2 s2 d2=>⟨i,j,d1,d2,g i j,rfl,by
  cases e:g i j with
  | true=>exact sS (hc M0 H0 γ α σ H2 _ ((R.next s1).next s2) fun z H3 s3 d3=>⟨j,k,d2,d3,_,rfl,by have:=kk H3 ((s1.trans s2).trans s3); rw [e]at this; exact this⟩)
  | false=>exact qE ⟨_,rfl,by have:=kk H2 (s1.trans s2); rw [e]at this; exact this⟩⟩)
theorem cG.val{c:Bool}(h:av X ρ e (.bl c))(he: ∀whole,isTrue e X.env whole=(do let v<-whole; standAt e.pos; kg [v] (truthy v)):=by intro _; rfl):cG X ρ e c:=
 fun M0 H0 γ α σ H Q R k=>(Kc g7 he).to (h M0 H0 γ α σ H _ R fun v H1 s1 d1=>⟨c,d1,k H1 s1⟩)
theorem i5.t{c:Bool}(h:i5 X ρ e c):cG X ρ e c:=fun M0 H0 γ α σ H Q R k=>LN.pt.to (h M0 H0 γ α σ H Q R k)
theorem cG.not{c:Bool}(h:cG X ρ a c):cG X ρ (.UnaryOp .Not a pos) (!c):=
 fun M0 H0 γ α σ H Q R k=>(Jq CB).to (h M0 H0 γ α σ H _ R fun H1 s1=>k H1 s1)
theorem av.not{c:Bool}(h:av X ρ a (.bl c)):av X ρ (.UnaryOp .Not a pos) (.bl (!c)):=
 fun M0 H0 γ α σ H Q R k=>(Jw g7).to (h M0 H0 γ α σ H _ R fun v H1 s1 d1=>⟨c,d1,k _ H1 s1 rfl⟩)
theorem i5.and1{c:Bool}(h:cG X ρ a c):i5 X ρ (.BoolOp .And [a] pos) c:=fun M0 H0 γ α σ H Q R k=>(pw_and1 CB).to (h M0 H0 γ α σ H Q R k)
theorem i5.or1{c:Bool}(h:cG X ρ a c):i5 X ρ (.BoolOp .Or [a] pos) c:=fun M0 H0 γ α σ H Q R k=>(pw_or1 CB).to (h M0 H0 γ α σ H Q R k)
theorem i5.and{c c':Bool}(h:cG X ρ a c)(h':c=true->i5 X ρ (.BoolOp .And (b::es) pos) c'):i5 X ρ (.BoolOp .And (a::b::es) pos) (c&&c'):=
 fun M0 H0 γ α σ H Q R k=>(pw_and CB LN).to (h M0 H0 γ α σ H _ R fun H1 s1=>by
  cases e:c with
  | true=>rw [e]at k; exact sS (h' e M0 H0 γ α σ H1 _ (R.next s1) fun H2 s2=>k H2 (s1.trans s2))
  | false=>rw [e]at k; exact qE (k H1 s1))
theorem i5.or{c c':Bool}(h:cG X ρ a c)(h':c=false->i5 X ρ (.BoolOp .Or (b::es) pos) c'):i5 X ρ (.BoolOp .Or (a::b::es) pos) (c || c'):=
 fun M0 H0 γ α σ H Q R k=>(pw_or CB LN).to (h M0 H0 γ α σ H _ R fun H1 s1=>by
  cases e:c with
  | false=>rw [e]at k; exact qE (h' e M0 H0 γ α σ H1 _ (R.next s1) fun H2 s2=>k H2 (s1.trans s2))
  | true=>rw [e]at k; exact sS (k H1 s1))
theorem av.one{op}(h:av X ρ a d):av X ρ (.BoolOp op [a] pos) d:=fun M0 H0 γ α σ H Q R k=>(JK g7).to (h M0 H0 γ α σ H Q R k)
theorem av.and{c c':Bool}(h:av X ρ a (.bl c))(h':c=true->av X ρ (.BoolOp .And (b::es) pos) (.bl c')):av X ρ (.BoolOp .And (a::b::es) pos) (.bl (c&&c')):=
 fun M0 H0 γ α σ H Q R k=>(Ja g7 g7).to (h M0 H0 γ α σ H _ R fun v H1 s1 d1=>⟨c,d1,by
  cases e:c with
  | true=>rw [e]at k; exact sS (h' e M0 H0 γ α σ H1 _ (R.next s1) fun u H2 s2 d2=>k u H2 (s1.trans s2) d2)
  | false=>rw [e]at k; exact qE (k _ H1 s1 rfl)⟩)
end
structure pM where
 N:eT->Prop
 R:D->Prop
 B:eT->Prop:=fun _=>False
 C:eT->Prop:=fun _=>False
def ends(K:Frag)(M0:MP)(H0:Hp)(γ:List (D×V))(P:pM):Ends where
 nx:=fun σ H=> ∃α ρ,Rep K M0 H0 γ α ρ σ H/\P.N ρ
 rt:=fun v H=> ∃d,P.R d/\bJ H0 H/\Dn K M0 H d v
 bk:=fun σ H=> ∃α ρ,Rep K M0 H0 γ α ρ σ H/\P.B ρ
 ct:=fun σ H=> ∃α ρ,Rep K M0 H0 γ α ρ σ H/\P.C ρ
def W1(X:Cx)(M0:MP)(H0:Hp)(st:Stmt)(ρ:eT)(P:pM):Prop:= ∀(γ:List (D×V)) (α:Nat->Addr) (σ:St) (H:Hp),Rep X.K M0 H0 γ α ρ σ H->tS X st (ends X.K M0 H0 γ P) σ H
def WS(X:Cx)(M0:MP)(H0:Hp)(st:List Stmt)(ρ:eT)(P:pM):Prop:= ∀(γ:List (D×V)) (α:Nat->Addr) (σ:St) (H:Hp),Rep X.K M0 H0 γ α ρ σ H->nj X st (ends X.K M0 H0 γ P) σ H
section
variable {X:Cx}{M0:MP}{H0:Hp}{st:Stmt}{sts:List Stmt}{ρ:eT}{P P':pM}{e a b c:Expr}{d:D}{ds:List D}{pos pos':Pos}{En En':Ends}{σ:St}{H:Hp}
theorem SP.mono{pins:List (Addr×Obj)}{f:Flow}{s:ah}(h1: ∀σ H,En.nx σ H->En'.nx σ H)(h2: ∀v H,En.rt v H->En'.rt v H)(h3: ∀σ H,En.bk σ H->En'.bk σ H)(h4: ∀σ H,En.ct σ H->En'.ct σ H)(h:SP X pins En f s):SP X pins En' f s:=by
 cases f with
 | next=>obtain⟨σ,H,I,q⟩:=h; exact⟨σ,H,I,h1 _ _ q⟩
 | brk=>obtain⟨σ,H,I,q⟩:=h; exact⟨σ,H,I,h3 _ _ q⟩
 | cont=>obtain⟨σ,H,I,q⟩:=h; exact⟨σ,H,I,h4 _ _ q⟩
 | ret u=>obtain⟨v,σ,H,I,r,q⟩:=h; exact⟨v,σ,H,I,r,h2 _ _ q⟩
theorem tS.mono(h1: ∀σ H,En.nx σ H->En'.nx σ H)(h2: ∀v H,En.rt v H->En'.rt v H)(h3: ∀σ H,En.bk σ H->En'.bk σ H)(h4: ∀σ H,En.ct σ H->En'.ct σ H)(h:tS X st En σ H):tS X st En' σ H:=
 fun pins s I=>eN (h pins s I) fun f s' q=>SP.mono h1 h2 h3 h4 q
theorem nj.mono(h1: ∀σ H,En.nx σ H->En'.nx σ H)(h2: ∀v H,En.rt v H->En'.rt v H)(h3: ∀σ H,En.bk σ H->En'.bk σ H)(h4: ∀σ H,En.ct σ H->En'.ct σ H)(h:nj X sts En σ H):nj X sts En' σ H:=
 fun pins s I=>eN (h pins s I) fun f s' q=>SP.mono h1 h2 h3 h4 q
theorem WS.nil(h:P.N ρ):WS X M0 H0 [] ρ P:=fun γ α σ H R=>rA.to ⟨α,ρ,R,h⟩
theorem WS.cons(h:W1 X M0 H0 st ρ {P with N:=fun ρ'=>WS X M0 H0 sts ρ' P}):WS X M0 H0 (st::sts) ρ P:=fun γ α σ H R=>
 (dq sN fK).to (tS.mono (En:=ends X.K M0 H0 γ {P with N:=fun ρ'=>WS X M0 H0 sts ρ' P}) (fun σ' H' ⟨α',ρ',R',w⟩=>w γ α' σ' H' R') (fun _ _ q=>q) (fun _ _ q=>q) (fun _ _ q=>q) (h γ α σ H R))
theorem WS.one(h:W1 X M0 H0 st ρ P):WS X M0 H0 [st] ρ P:=fun γ α σ H R=>(rg sN).to (h γ α σ H R)
theorem W1.imp(h:W1 X M0 H0 st ρ P)(h1: ∀ρ,P.N ρ->P'.N ρ)(h2: ∀d,P.R d->P'.R d)(h3: ∀ρ,P.B ρ->P'.B ρ)(h4: ∀ρ,P.C ρ->P'.C ρ):W1 X M0 H0 st ρ P':=fun γ α σ H R=>
 tS.mono (En:=ends X.K M0 H0 γ P) (fun _ _ ⟨α,ρ,R,q⟩=>⟨α,ρ,R,h1 _ q⟩) (fun _ _ ⟨d,q,r⟩=>⟨d,h2 _ q,r⟩) (fun _ _ ⟨α,ρ,R,q⟩=>⟨α,ρ,R,h3 _ q⟩) (fun _ _ ⟨α,ρ,R,q⟩=>⟨α,ρ,R,h4 _ q⟩) (h γ α σ H R)
theorem WS.freeze{i:Nat}(hi:ρ[i]? =some (.mu ds))(h:WS X M0 H0 sts (ρ.set i (.im (.lst ds))) P):WS X M0 H0 sts ρ P:=fun γ α σ H R=>h γ α σ H (R.freeze hi)
theorem W1.ret(h:av X ρ e d)(q:P.R d):W1 X M0 H0 (.Return (some e) pos) ρ P:=fun γ α σ H R=>
 (Jx g7).to (h M0 H0 γ α σ H _ R fun v H' s x=>⟨d,q,R.same.trans s,x.less fun a m=> .inl m⟩)
theorem W1.expr(h:av X ρ e d)(q:P.N ρ)(hs:cQ e none pos.line X.env=pure false:=by rfl):W1 X M0 H0 (.Expr e pos) ρ P:=fun γ α σ H R=>
 (nB g7 hs).to (h M0 H0 γ α σ H _ R fun v H' s x=>⟨α,ρ,R.next s,q⟩)
theorem W1.ite{s1 s2:List Stmt}{t:Bool}(h:cG X ρ c t)(h1:t=true->WS X M0 H0 s1 ρ P)(h2:t=false->WS X M0 H0 s2 ρ P):W1 X M0 H0 (.If c s1 s2 pos) ρ P:=fun γ α σ H R=>
 (xN CB fK fK).to (h M0 H0 γ α σ H _ R fun H1 s=>by
  cases e:t with
  | true=>exact sS (h1 e γ α σ H1 (R.next s))
  | false=>exact qE (h2 e γ α σ H1 (R.next s)))
theorem W1.set{i:Nat}{x:Str}(hN:X.N.Nodup)(hi:X.N[i]? =some x)(hx:Loc X.env.scope x)(hl:i < ρ.length)(h:av X ρ e d)(q:P.N (ρ.set i (.im d)))
  (hs:cQ e (some (.Name x pos')) pos.line X.env=pure false:=by rfl)(hf:X.fn x=true\/X.env.scope.names.lookup x=some .local:=by first | exact .inl rfl | exact .inr rfl | assumption):W1 X M0 H0 (.Assign [.Name x pos'] e pos) ρ P:=fun γ α σ H R=>
 (qd hN hi hx g7 hs hf).to (h M0 H0 γ α σ H _ R fun v H' s x=>⟨α,_,(R.next s).set_im hl x,q⟩)
theorem W1.setF{i:Nat}{x:Str}(hN:X.N.Nodup)(hi:X.N[i]? =some x)(hx:Loc X.env.scope x)(hl:i < ρ.length)(h:dP X ρ e ds)(q:P.N (ρ.set i (.mu ds)))
  (hs:cQ e (some (.Name x pos')) pos.line X.env=pure false:=by rfl)(hf:X.fn x=true\/X.env.scope.names.lookup x=some .local:=by first | exact .inl rfl | exact .inr rfl | assumption):W1 X M0 H0 (.Assign [.Name x pos'] e pos) ρ P:=fun γ α σ H R=>
 (qd hN hi hx g7 hs hf).to (h M0 H0 γ α σ H _ R fun l xs H1 H' s n s' y z=>⟨_,_,(R.next s).set_mu hl n s' y z,q⟩)
def tG(X:Cx)(tg:Expr):TG:=fun v σ H Q=> ∀(pins:List (Addr×Obj)) (s:ah) (u:Value),Inv X pins σ H s->RelV v u->wpAny (model X.prog X.w) X.A (oX tg X.env u) (fun _ s'=> ∃σ' H',Inv X pins σ' H' s'/\Q σ' H') X.xe s
theorem M1{tg:Expr}:PG X tg (tG X tg):=fun pins s σ H v u Q I r h=>h pins s u I r
theorem _root_.L2.PG.to{tg:Expr}{t:TG}{v:V}{Q:St->Hp->Prop}(h:PG X tg t)(q:t v σ H Q):tG X tg v σ H Q:=fun pins s u I r=>h pins s σ H v u Q I r q
def A1(X:Cx)(tg:Expr)(d:D)(ρ ρ':eT):Prop:= ∀(M0:MP) (H0:Hp) (γ:List (D×V)) (α:Nat->Addr) (σ:St) (H:Hp) (v:V) (Q:St->Hp->Prop),Rep X.K M0 H0 γ α ρ σ H->Dn X.K (MM M0 ρ α) H d v->
 (∀σ',Rep X.K M0 H0 γ α ρ' σ' H->Q σ' H)->tG X tg v σ H Q
theorem A1.name{i:Nat}{x:Str}(hN:X.N.Nodup)(hi:X.N[i]? =some x)(hx:Loc X.env.scope x)(hl:i < ρ.length)
  (hf:X.fn x=true\/X.env.scope.names.lookup x=some .local:=by first | exact .inl rfl | exact .inr rfl | assumption):A1 X (.Name x pos) d ρ (ρ.set i (.im d)):=fun M0 H0 γ α σ H v Q R h k=>
 (rf hN hi hx hf).to (k _ (R.set_im hl h))
theorem DU{body:List Stmt}{γ γ':List (D×V)}{α:Nat->Addr}{J:eT->Prop}(hg: ∀{α:Nat->Addr} {ρ:eT} {σ:St} {H:Hp},Rep X.K M0 H0 γ' α ρ σ H->Rep X.K M0 H0 γ α ρ σ H)
  (R:Rep X.K M0 H0 γ' α ρ σ H)(w:WS X M0 H0 body ρ {P with N:=J,C:=J,B:=P.N}):
  nj X body {ends X.K M0 H0 γ P with nx:=fun σ H=> ∃α ρ,Rep X.K M0 H0 γ' α ρ σ H/\J ρ,ct:=fun σ H=> ∃α ρ,Rep X.K M0 H0 γ' α ρ σ H/\J ρ,bk:=(ends X.K M0 H0 γ P).nx} σ H:=
 nj.mono (En:=ends X.K M0 H0 γ' {P with N:=J,C:=J,B:=P.N}) (fun _ _ q=>q) (fun _ _ q=>q) (fun _ _ ⟨α,ρ,R,q⟩=>⟨α,ρ,hg R,q⟩) (fun _ _ q=>q) (w γ' α σ H R)
theorem W1.while{body:List Stmt}(I:eT->Prop)(μ:eT->Nat)(hp:tU (model X.prog X.w) X.A X.env X.xe)(h0:I ρ)
  (ht: ∀ρ,I ρ-> ∃t,cG X ρ c t/\(t=true->WS X M0 H0 body ρ {P with N:=fun ρ'=>I ρ'/\μ ρ' < μ ρ,C:=fun ρ'=>I ρ'/\μ ρ' < μ ρ,B:=P.N})/\(t=false->P.N ρ)):W1 X M0 H0 (.While c body [] pos) ρ P:=fun γ α σ H R=>by
 refine(xb hp CB fK).to ⟨fun m σ H=> ∃α ρ,Rep X.K M0 H0 γ α ρ σ H/\I ρ/\μ ρ=m,⟨μ ρ,α,ρ,R,h0,rfl⟩, ?_⟩
 rintro m σ2 H2 ⟨α2,ρ2,R2,i2,rfl⟩
 obtain⟨t,h1,h2,h3⟩:=ht ρ2 i2
 refine h1 M0 H0 γ α2 σ2 H2 _ R2 fun H3 s=> ?_
 cases e:t with
 | true=>
  refine sS ⟨fun σ H=> ∃α ρ,Rep X.K M0 H0 γ α ρ σ H/\(I ρ/\μ ρ < μ ρ2),fun σ' H' ⟨α',ρ',R',i',l'⟩=>⟨_,l',α',ρ',R',i',rfl⟩, ?_⟩
  exact DU (fun r=>r) (R2.next s) (h2 e)
 | false=>exact qE ⟨α2,ρ2,R2.next s,h3 e⟩
def Kg(X:Cx)(o:Expr)(name:Str)(e:Expr)(apos cpos:Pos):Prop:=jC o name X.env (eval o X.env)=eval o X.env/\
 ((dZ cpos (ar [e] X.env)).all (fun x=> !x.1)&&(backToKw cpos (Cj [] X.env)).all (fun x=>x.1.isSome)&&decide ([e].length+([]:List Keyword).length+(if([]:List Keyword).isEmpty then 0 else 1) < 30))=true/\
 (apos.endLine==cpos.line)=true/\ar [e] X.env= [(false,eval e X.env)]
theorem W1.mt1{i:Nat}{x name:Str}{id:String}{es:List D}{r:V->List V->Hp->VK->Prop}{p1 p2 p3:Pos}(pa:PlainAttrs "list")(sl:Slot "list" name id)(hty:typeOf (.builtin id)=pure (.type "method_descriptor"))(hm:Lp X id r)
  (hi:X.N[i]? =some x)(hv:yy X.env.scope x)(hρ:ρ[i]? =some (.mu ds))(h:av X ρ e d)
  (hr: ∀(M:MP) (H:Hp) (l:Addr) (xs:List V) (v:V) (Q:VK),H l=some (.lst xs)->cA X.K M H ds xs->Dn X.K M H d v->(∀u ys,cA X.K M H es ys->Q u (upd H l (.lst ys)))->r (.ref l) [v] H Q)(q:P.N (ρ.set i (.mu es)))
  (mc:Kg X (.Name x p1) name e p2 p3)(hd:(x==("__debug__":Str))=false:=by decide)(hcd:(x==("__classdict__":Str))=false:=by decide)(hsw:cQ (.Call (.Attribute (.Name x p1) name p2) [e] [] p3) none pos.line X.env=pure false:=by rfl):
  W1 X M0 H0 (.Expr (.Call (.Attribute (.Name x p1) name p2) [e] [] p3) pos) ρ P:=fun γ α σ H R=>by
 obtain⟨m1,m2,m3,m4⟩:=mc
 obtain⟨a1,a2,xs,a3,a4⟩:=R.mu i ds hρ
 refine(nB (Fx pa sl hty hm (lU hi hv hd hcd) wu m1 m2 m3 m4 rfl) hsw).to ?_
 refine⟨_,a2, .inl ⟨rfl,_,ox.of a3⟩,(aP.cons h aP.nil m4) M0 H0 γ α σ H _ R fun vs H1 s y=> ?_⟩
 obtain⟨v,r,rfl,e1,e2⟩:=y
 cases e2
 exact hr _ H1 (α i) xs v _ (s _ _ a3) (a4.same s) e1 fun u ys hy=>⟨α,_,(R.next s).upd_mu hρ hy,q⟩
theorem Az{n:Nat}(h:n < 1000000):n < sizeLine:=aX h (by decide)
theorem W1.append{i:Nat}{x:Str}{p1 p2 p3:Pos}(hi:X.N[i]? =some x)(hv:yy X.env.scope x)(hρ:ρ[i]? =some (.mu ds))(h:av X ρ e d)(hl:ds.length < 1000000)(q:P.N (ρ.set i (.mu (ds ++ [d]))))
  (mc:Kg X (.Name x p1) "append" e p2 p3)(hd:(x==("__debug__":Str))=false:=by decide)(hcd:(x==("__classdict__":Str))=false:=by decide)(hsw:cQ (.Call (.Attribute (.Name x p1) "append" p2) [e] [] p3) none pos.line X.env=pure false:=by rfl):
  W1 X M0 H0 (.Expr (.Call (.Attribute (.Name x p1) "append" p2) [e] [] p3) pos) ρ P:=
 W1.mt1 mB PySem.F.slot_list_append PySem.F.type_list_append nD hi hv hρ h (fun M H l xs v Q a b c k=>⟨l,xs,v,rfl,rfl,a,by rw [b.len]; exact Az hl,k _ _ (cA.app b (cA.one c))⟩) q mc hd hcd hsw
theorem Fm(l b:Addr)(xs ys:Array Value)(n m:Nat)(dd:Option Addr)(sl:Array (Option Value))(h0: ¬(!xs.isEmpty&&iy (xs.size+ys.size))=true)(h1:xs.size<=sizeLine)(h2:xs.size+ys.size<=sizeLine):
  Meets (c6.«list.extend» ⟨[.ref l, .ref b], []⟩) (fun _ R s=>s.heap.get? l=some {cls:= .type "list",data:= .seq xs n}/\s.heap.get? b=some {cls:= .type "list",dict:=dd,data:= .seq ys m,slots:=sl}/\
   R (.ok (.ret aY)) {s with heap:=s.heap.update l (df fun x=>x ++ ys),toks:=s.toks}):=
 .of_wp fun prog w A R s h=>by
  obtain⟨hp,g,d,tk,os⟩:=s
  obtain⟨hl,hb,h⟩:=h
  have f2:=iw
  have f3:=z_
  have hz:(xs ++ ys).size<=sizeLine+1:=by rw [Array.size_append]; omega
  wp_walk using (IP hl rfl (hz:=h1) (_hz':=hz)),cj hl,cj hb
  exact⟨_,rfl,h⟩
theorem Bz(l b:Addr)(xs ys:Array Value)(n m:Nat)(dd:Option Addr)(sl:Array (Option Value))(h0: ¬(!xs.isEmpty&&iy (xs.size+ys.size))=true)(h1:xs.size<=sizeLine)(h2:xs.size+ys.size<=sizeLine):
  Meets (c6.«list.extend» ⟨[.ref l, .ref b], []⟩) (fun _ R s=>s.heap.get? l=some {cls:= .type "list",data:= .seq xs n}/\s.heap.get? b=some {cls:= .type "tuple",dict:=dd,data:= .seq ys m,slots:=sl}/\
   R (.ok (.ret aY)) {s with heap:=s.heap.update l (df fun x=>x ++ ys),toks:=s.toks}):=
 .of_wp fun prog w A R s h=>by
  obtain⟨hp,g,d,tk,os⟩:=s
  obtain⟨hl,hb,h⟩:=h
  have f2:=iw
  have f3:=z_
  have hz:(xs ++ ys).size<=sizeLine+1:=by rw [Array.size_append]; omega
  wp_walk using (IP hl rfl (hz:=h1) (_hz':=hz)),cj hl,cj hb
  exact⟨_,rfl,h⟩
def KG(K:Frag):V->List V->Hp->VK->Prop:=fun x vs H Q=> ∃l b xs zs,x= .ref l/\vs= [.ref b]/\H l=some (.lst xs)/\(ox K H b zs\/jR K H b zs)/\xs.length+zs.length<=sizeLine/\Q .non (upd H l (.lst (xs ++ zs)))
theorem Hv:Lp X "list.extend" (KG X.K):=by
 intro pins s σ H x vs v us Q I rx rv h
 obtain⟨l,b,xs,zs,rfl,rfl,hH,hB,hz,q⟩:=h
 cases rx
 obtain⟨u,rfl,ru⟩:=rv.one
 cases ru
 obtain⟨z,its,n,r,hl,e⟩:=I.lstM hH
 have key: ∀its2:List Value,Vals zs its2->its.toArray.size+its2.toArray.size<=sizeLine/\ ¬(!its.toArray.isEmpty&&iy (its.toArray.size+its2.toArray.size))=true:=fun its2 r2=>by
  have hl2:=r2.length
  have hsz:its.toArray.size+its2.toArray.size<=sizeLine:=by rw [az,az]; omega
  refine⟨hsz, ?_⟩
  rw [Fd hsz,kT]
  exact aA
 have fin: ∀its2:List Value,Vals zs its2->EP X pins σ Q aY {s with heap:=s.heap.update l (df fun x=>x ++ its2.toArray),toks:=s.toks}:=fun its2 r2=>
  ⟨.non,_,I.lset (its':=its ++ its2) hH e (by simp) (r.append r2) (by rw [ao]; exact hz),rfl,q⟩
 rcases hB with hB | hB
 ·obtain⟨its2,r2,⟨⟨oc,od,odt,osl⟩,n2,e2,ec,ed,edt⟩,z2⟩:=I.list hB
  simp only at ec ed edt
  subst ec ed edt
  obtain⟨k1,k2⟩:=key its2 r2
  exact call_meets F.slot_list_extend ⟨_,e,rfl⟩ F.entry_list_extend (F.args_list_extend_2 _ _) (Fm l b its.toArray its2.toArray n n2 none osl k2 (by rw [az]; omega) k1) ⟨e,e2,fin its2 r2⟩
 ·obtain⟨its2,r2,⟨⟨oc,od,odt,osl⟩,e2,ec,n2,edt⟩,z2⟩:=I.tuple hB
  simp only at ec edt
  subst ec edt
  obtain⟨k1,k2⟩:=key its2 r2
  exact call_meets F.slot_list_extend ⟨_,e,rfl⟩ F.entry_list_extend (F.args_list_extend_2 _ _) (Bz l b its.toArray its2.toArray n n2 od osl k2 (by rw [az]; omega) k1) ⟨e,e2,fin its2 r2⟩
end
section
variable {X:Cx}{M0:MP}{H0:Hp}{ρ:eT}{P:pM}{e a b c:Expr}{es:List Expr}{d:D}{ds:List D}{pos p:Pos}
theorem cA.at{K:Frag}{M:MP}{H:Hp}{ds:List D}{vs:List V}{k:Int}{d:D}(h:cA K M H ds vs)(e:uk ds k=some d): ∃v,uk vs k=some v/\Dn K M H d v:=by
 obtain⟨j,h1,h2,h3,h4,h5⟩:=wC e
 obtain⟨v,q1,q2⟩:=h.get h2
 refine⟨v, ?_,q2⟩
 unfold uk at e ⊢
 rw [h.len]
 cases z:CA ds.length k with
 | none=>rw [z]at e; cases e
 | some j'=>
  obtain⟨w,_⟩:=q9 z
  rw [h1]at w; cases w
  exact q1
theorem av.ixL{k:Int}(ha:lZ X ρ a (.lst ds))(hb:av X ρ b (.int k))(hk:uk ds k=some d)(hs:pv b:=by intro _ _; rfl):av X ρ (.Subscript a b pos) d:=
 fun M0 H0 γ α σ H Q R kk=>(Ek GD g7 g7 hs).to (ha M0 H0 γ α σ H _ R fun v H1 s1 d1=>hb M0 H0 γ α σ H1 _ (R.next s1) fun u H2 s2 d2=>by
  obtain⟨q,xs,rfl,sq,dn⟩:=d1.same s2
  obtain⟨w,e1,e2⟩:=dn.at hk
  exact⟨q,xs,k,w,rfl,d2,sq,e1,kk w H2 (s1.trans s2) e2⟩)
theorem av.ixT{k:Int}(ha:av X ρ a (.tup ds))(hb:av X ρ b (.int k))(hk:uk ds k=some d)(hs:pv b:=by intro _ _; rfl):av X ρ (.Subscript a b pos) d:=
 fun M0 H0 γ α σ H Q R kk=>(Ek JH g7 g7 hs).to (ha M0 H0 γ α σ H _ R fun v H1 s1 d1=>hb M0 H0 γ α σ H1 _ (R.next s1) fun u H2 s2 d2=>by
  obtain⟨q,xs,rfl,sq,dn⟩:=d1.same s2
  obtain⟨w,e1,e2⟩:=dn.at hk
  exact⟨q,xs,k,w,rfl,d2,sq,e1,kk w H2 (s1.trans s2) e2⟩)
theorem av.callB{id:String}{x:Str}{r:List V->Hp->VK->Prop}(hc:gK X (.builtin id) r)(hg:Gl X x)(hm:X.mg x=none)(hv:cZ x=some (.builtin id))(ha:ue X ρ (e::es) ds)
  (hr: ∀(M:MP) (H:Hp) (vs:List V) (Q:VK),xJ X.K M H ds vs->(∀v H',bJ H H'->Dn X.K M H' d v->Q v H')->r vs H Q)(hn:x≠"__name__":=by decide)(hdb:(x==("__debug__":Str))=false:=by decide)
  (he:ar (e::es) X.env=(false,eval e X.env)::ar es X.env:=by rfl)(hpl:(dZ pos (ar es X.env)).any (·.1)=false:=by rfl):av X ρ (.Call (.Name x p) (e::es) [] pos) d:=
 fun M0 H0 γ α σ H Q R k=>(gZ hc hg hm hv wu hn hdb he hpl).to (ha M0 H0 γ α σ H _ R fun vs H1 s1 d1=>hr _ H1 vs Q d1 fun v H2 s2 d2=>k v H2 (s1.trans s2) d2)
theorem av.callTy{T:String}{x:Str}{r:List V->Hp->VK->Prop}(hc:gK X (.type T) r)(hg:Gl X x)(hm:X.mg x=none)(hv:cZ x=some (.type T))(ha:ue X ρ (e::es) ds)
  (hr: ∀(M:MP) (H:Hp) (vs:List V) (Q:VK),xJ X.K M H ds vs->(∀v H',bJ H H'->Dn X.K M H' d v->Q v H')->r vs H Q)(hn:x≠"__name__":=by decide)(hdb:(x==("__debug__":Str))=false:=by decide)
  (he:ar (e::es) X.env=(false,eval e X.env)::ar es X.env:=by rfl)(hpl:(dZ pos (ar es X.env)).any (·.1)=false:=by rfl):av X ρ (.Call (.Name x p) (e::es) [] pos) d:=
 fun M0 H0 γ α σ H Q R k=>(jP hc hg hm hv wu hn hdb he hpl).to (ha M0 H0 γ α σ H _ R fun vs H1 s1 d1=>hr _ H1 vs Q d1 fun v H2 s2 d2=>k v H2 (s1.trans s2) d2)
theorem dP.callTy{T:String}{x:Str}{fs:List D}{r:List V->Hp->VK->Prop}(hc:gK X (.type T) r)(hg:Gl X x)(hm:X.mg x=none)(hv:cZ x=some (.type T))(ha:ue X ρ (e::es) ds)
  (hr: ∀(M:MP) (H:Hp) (vs:List V) (Q:VK),xJ X.K M H ds vs->(∀l xs H1 H',bJ H H1->H1 l=none->bJ H1 H'->H' l=some (.lst xs)->cA X.K (fun a=>M a\/a=l) H' fs xs->Q (.ref l) H')->r vs H Q)(hn:x≠"__name__":=by decide)(hdb:(x==("__debug__":Str))=false:=by decide)
  (he:ar (e::es) X.env=(false,eval e X.env)::ar es X.env:=by rfl)(hpl:(dZ pos (ar es X.env)).any (·.1)=false:=by rfl):dP X ρ (.Call (.Name x p) (e::es) [] pos) fs:=
 fun M0 H0 γ α σ H Q R k=>(jP hc hg hm hv wu hn hdb he hpl).to (ha M0 H0 γ α σ H _ R fun vs H1 s1 d1=>hr _ H1 vs Q d1 fun l xs H2 H3 s2 n s3 q dn=>k l xs H2 H3 (s1.trans s2) n s3 q dn)
theorem ue.one(h:lZ X ρ e d)(hs:ar [e] X.env= [(false,eval e X.env)]:=by rfl):ue X ρ [e] [d]:=ue.cons h ue.nil hs
def uM:D->List D->Prop
 | .lst ds,es=>ds=es
 | .tup ds,es=>ds=es
 | _,_=>False
theorem vA{K:Frag}{M:MP}{H:Hp}{d:D}{ds:List D}{v:V}(hq:uM d ds)(h:pj K M H d v): ∃q xs,v= .ref q/\(ox K H q xs\/jR K H q xs)/\cA K M H ds xs:=by
 cases d with
 | lst es=>cases hq; obtain⟨q,xs,e,s,r⟩:=h; exact⟨q,xs,e, .inl s,r⟩
 | tup es=>cases hq; obtain⟨q,xs,e,s,r⟩:=h; exact⟨q,xs,e, .inr s,r⟩
 | _=>exact hq.elim
theorem av.len(hg:Gl X "len")(hm:X.mg "len"=none)(h:lZ X ρ e d)(hq:uM d ds)(he:ar [e] X.env= [(false,eval e X.env)]:=by rfl):av X ρ (.Call (.Name "len" p) [e] [] pos) (.int ds.length):=
 av.callB wc hg hm PySem.boot_len (ue.one h he) (fun M H vs Q dn k=>by
  obtain⟨v,r,rfl,e1,e2⟩:=dn
  cases e2
  obtain⟨q,xs,rfl,s,z⟩:=vA hq e1
  exact⟨q,xs,rfl,s,k _ H (bJ.refl _) (by rw [z.len]; exact rfl)⟩) (he:=he)
theorem dP.list(hg:Gl X "list")(hm:X.mg "list"=none)(hv:cZ "list"=some (.type "list"))(h:lZ X ρ e d)(hq:uM d ds)(he:ar [e] X.env= [(false,eval e X.env)]:=by rfl):dP X ρ (.Call (.Name "list" p) [e] [] pos) ds:=
 dP.callTy we hg hm hv (ue.one h he) (fun M H vs Q dn k=>by
  obtain⟨v,r,rfl,e1,e2⟩:=dn
  cases e2
  obtain⟨q,xs,rfl,s,z⟩:=vA hq e1
  exact⟨q,xs,rfl,s,fun l hl=>k l xs H _ (bJ.refl _) hl (bt hl) bC ((rG hl z).same (bt hl))⟩) (he:=he)
theorem av.tuple(hg:Gl X "tuple")(hm:X.mg "tuple"=none)(hv:cZ "tuple"=some (.type "tuple"))(h:lZ X ρ e d)(hq:uM d ds)(he:ar [e] X.env= [(false,eval e X.env)]:=by rfl):av X ρ (.Call (.Name "tuple" p) [e] [] pos) (.tup ds):=
 av.callTy uj hg hm hv (ue.one h he) (fun M H vs Q dn k=>by
  obtain⟨v,r,rfl,e1,e2⟩:=dn
  cases e2
  obtain⟨q,xs,rfl,s,z⟩:=vA hq e1
  refine⟨q,xs,rfl, ?_⟩
  rcases s with s | s
  ·exact .inl ⟨s,fun l hl=>k _ _ (bt hl) ⟨l,xs,rfl,jR.of bC,z.same (bt hl)⟩⟩
  ·exact .inr ⟨s,k _ H (bJ.refl _) ⟨q,xs,rfl,s,z⟩⟩) (he:=he)
theorem av.min(hc:X.calm=true)(hg:Gl X "min")(hm:X.mg "min"=none)(hv:cZ "min"=some (.builtin "min")){i j:Int}(ha:av X ρ a (.int i))(hb:av X ρ b (.int j))
  (he:ar [a,b] X.env=(false,eval a X.env)::ar [b] X.env:=by rfl)(he2:ar [b] X.env= [(false,eval b X.env)]:=by rfl)(hpl:(dZ pos (ar [b] X.env)).any (·.1)=false:=by rfl):av X ρ (.Call (.Name "min" p) [a,b] [] pos) (.int (if j < i then j else i)):=
 av.callB (Bx hc) hg hm hv (ue.cons ha.r (ue.one hb.r he2) he) (fun M H vs Q dn k=>by
  obtain⟨v,r,rfl,e1,v2,r2,rfl,e2,e3⟩:=dn
  cases e1; cases e2; cases e3
  exact⟨i,j,rfl,k _ H (bJ.refl _) rfl⟩) (he:=he) (hpl:=hpl)
mutual
def D.pd:D->PyData
 | .non=> .none
 | .bl b=> .bool b
 | .int i=> .int i
 | .str x=> .str x
 | .tup ds=> .tuple (D.pds ds)
 | .lst ds=> .list (D.pds ds)
 | .ins _ _ _=> .none
 | .exc _=> .none
 | .dct _ _=> .none
def D.pds:List D->List PyData
 | []=> []
 | d::ds=>D.pd d::D.pds ds
end
def D.flat:Nat->D->Prop
 | _, .non=>True
 | _, .bl _=>True
 | _, .int _=>True
 | _, .str x=>PyData.strOk x=true
 | n+1, .tup ds=> ∀d∈ds,D.flat n d
 | n+1, .lst ds=> ∀d∈ds,D.flat n d
 | _,_=>False
theorem jU{pins:List (Addr×Obj)}{s:ah}{σ:St}{H:Hp}{M:MP}(I:Inv X pins σ H s): ∀(n:Nat),
  (∀(d:D) (v:V) (u:Value),D.flat n d->pj X.K M H d v->RelV v u-> ∃as,Reads s.heap u d.pd as):=by
 intro n
 have all: ∀m:Nat,(∀(d:D) (v:V) (u:Value),D.flat m d->pj X.K M H d v->RelV v u-> ∃as,Reads s.heap u d.pd as)->
   ∀(ds:List D) (vs:List V) (us:List Value),(∀d∈ds,D.flat m d)->cA X.K M H ds vs->Vals vs us-> ∃as,ReadsAll s.heap us (D.pds ds) as:=by
  intro m ih ds
  induction ds with
  | nil=>intro vs us _ h r; cases (show vs= []from h); cases r; exact⟨_, .nil⟩
  | cons d ds hi=>
   intro vs us hf h r
   obtain⟨v,t,rfl,h1,h2⟩:=h
   cases r with
   | cons r1 r2=>
    obtain⟨as,q1⟩:=ih d v _ (hf d (.head _)) h1.t r1
    obtain⟨bs,q2⟩:=hi t _ (fun x hx=>hf x (.tail _ hx)) h2 r2
    exact⟨_, .cons q1 q2⟩
 have base: ∀(m:Nat) (d:D) (v:V) (u:Value),(∀ds,d≠ .tup ds)->(∀ds,d≠ .lst ds)->D.flat m d->pj X.K M H d v->RelV v u-> ∃as,Reads s.heap u d.pd as:=by
  intro m d v u n1 n2 hf h r
  cases d with
  | non=>cases (show v= .non from h); cases (show u=aY from r); exact⟨_, .none⟩
  | bl b=>cases (show v= .bl b from h); cases (show u=fD b from r); exact⟨_, .bool b⟩
  | int i=>cases (show v= .int i from h); obtain⟨t,rfl⟩:=r; exact⟨_, .int i t⟩
  | str x=>cases (show v= .str x from h); obtain⟨t,rfl⟩:=r; exact⟨_, .str x t⟩
  | tup ds=>exact absurd rfl (n1 ds)
  | lst ds=>exact absurd rfl (n2 ds)
  | ins _ _ _=>cases m <;> exact hf.elim
  | exc _=>cases m <;> exact hf.elim
  | dct _ _=>cases m <;> exact hf.elim
 induction n with
 | zero=>
  intro d v u hf h r
  refine base 0 d v u (fun ds e=> ?_) (fun ds e=> ?_) hf h r <;> (subst e; exact hf.elim)
 | succ n ih=>
  intro d v u hf h r
  cases d with
  | tup ds=>
   obtain⟨a,xs,rfl,sq,dn⟩:=h
   cases (show u=ak a from r)
   obtain⟨its,rv,⟨o,e1,e2,m,e3⟩,_⟩:=I.tuple sq
   obtain⟨as,q⟩:=all n ih ds xs its hf dn rv
   exact⟨_, .tuple e1 e2 e3 (by simpa [D.pds]using q)⟩
  | lst ds=>
   obtain⟨a,xs,rfl,sq,dn⟩:=h
   cases (show u=ak a from r)
   obtain⟨its,rv,⟨o,m,e1,e2,_,e3⟩,_⟩:=I.list sq
   obtain⟨as,q⟩:=all n ih ds xs its hf dn rv
   exact⟨_, .list e1 e2 e3 (by simpa [D.pds]using q)⟩
  | _=>exact base (n+1) _ v u (fun ds e=>nomatch e) (fun ds e=>nomatch e) hf h r
theorem lh: ∀(n:Nat) (d:D),D.flat n d->d.pd.canLay0=true/\d.pd.depth<=n:=by
 have all: ∀m:Nat,(∀d:D,D.flat m d->d.pd.canLay0=true/\d.pd.depth<=m)-> ∀ds:List D,(∀d∈ds,D.flat m d)->eB (D.pds ds)=true/\dH (D.pds ds)<=m:=by
  intro m ih ds
  induction ds with
  | nil=>intro _; exact⟨by simp [D.pds,eB],by simp [D.pds,dH]⟩
  | cons d ds hi=>
   intro hf
   obtain⟨a1,a2⟩:=ih d (hf d (.head _))
   obtain⟨b1,b2⟩:=hi fun x hx=>hf x (.tail _ hx)
   exact⟨by simp [D.pds,eB,a1,b1],by simp only [D.pds,dH]; omega⟩
 intro n
 induction n with
 | zero=>intro d hf; cases d <;> simp_all [D.flat,D.pd,jc,ki]
 | succ n ih=>
  intro d hf
  cases d with
  | tup ds=>obtain⟨b1,b2⟩:=all n ih ds hf; exact⟨by simpa [D.pd,jc]using b1,by simp only [D.pd,ki]; omega⟩
  | lst ds=>obtain⟨b1,b2⟩:=all n ih ds hf; exact⟨by simpa [D.pd,jc]using b1,by simp only [D.pd,ki]; omega⟩
  | _=>simp_all [D.flat,D.pd,jc,ki]
theorem km{d:D}(h:D.flat 60 d):SeqAt.shaped d.pd=true:=by
 obtain⟨a,b⟩:=lh 60 d h
 unfold SeqAt.shaped
 rw [a,iz]
 exact decide_eq_true (by omega)
def D.eqv(a b:D):Bool:=iU a.pd b.pd
def Kt(K:Frag)(neg:Bool):R2:=fun x y H Q=> ∃M da db,pj K M H da x/\pj K M H db y/\D.flat 60 da/\D.flat 60 db/\Q (.bl (if neg then !D.eqv da db else D.eqv da db)) H
theorem JP(hu:X.A.units+64 < cLine):nX X (cC .Eq) (Kt X.K false):=by
 intro pins s σ H x y v u Q I rx ry ⟨M,da,db,h1,h2,f1,f2,q⟩
 obtain⟨as,r1⟩:=jU I 60 da x v f1 h1 rx
 obtain⟨bs,r2⟩:=jU I 60 db y u f2 h2 ry
 exact eq_dataH r1 r2 (km f1) (km f2) hu ⟨.bl _,H,I,rfl,q⟩
theorem JT(hu:X.A.units+64 < cLine):nX X (cC .NotEq) (Kt X.K true):=by
 intro pins s σ H x y v u Q I rx ry ⟨M,da,db,h1,h2,f1,f2,q⟩
 obtain⟨as,r1⟩:=jU I 60 da x v f1 h1 rx
 obtain⟨bs,r2⟩:=jU I 60 db y u f2 h2 ry
 exact ne_dataH r1 r2 (km f1) (km f2) hu ⟨.bl _,H,I,rfl,q⟩
theorem av.eq{da db:D}(hu:X.A.units+64 < cLine)(ha:lZ X ρ a da)(hb:lZ X ρ b db)(f1:D.flat 60 da)(f2:D.flat 60 db):av X ρ (.Compare a [.Eq] [b] pos) (.bl (D.eqv da db)):=
 av.cmp (JP hu) ha hb (wa b) fun M H x y Q dx dy k=>⟨M,da,db,dx,dy,f1,f2,k⟩
theorem cG.ne{da db:D}(hu:X.A.units+64 < cLine)(ha:lZ X ρ a da)(hb:lZ X ρ b db)(f1:D.flat 60 da)(f2:D.flat 60 db):cG X ρ (.Compare a [.NotEq] [b] pos) (!D.eqv da db):=
 cG.cmp (JT hu) ha hb (wa b) fun M H x y Q dx dy k=>⟨M,da,db,dx,dy,f1,f2,k⟩
def inD(d:D)(ds:List D):Bool:=ds.any fun y=>D.eqv y d
def LH(K:Frag)(neg:Bool):R2:=fun x y H Q=> ∃M da ds,pj K M H da x/\(pj K M H (.lst ds) y\/pj K M H (.tup ds) y)/\D.flat 60 da/\(∀d∈ds,D.flat 59 d)/\Q (.bl (if neg then !inD da ds else inD da ds)) H
theorem vQ(d:D): ∀ds:List D,(D.pds ds).any (fun y=>iU y d.pd)=inD d ds
 | []=>rfl
 | y::ds=>by
  show(iU y.pd d.pd || (D.pds ds).any _)=(D.eqv y d || inD d ds)
  rw [vQ d ds]
  rfl
theorem DN(hu:X.A.units+65 < cLine):nX X (cC .In) (LH X.K false):=by
 intro pins s σ H x y v u Q I rx ry ⟨M,da,ds,h1,h2,f1,f2,q⟩
 obtain⟨as,r1⟩:=jU I 60 da x v f1 h1 rx
 obtain⟨c1,c2⟩:=lh 60 da f1
 rcases h2 with h2 | h2
 ·obtain⟨bs,r2⟩:=jU I 60 (.lst ds) y u f2 h2 ry
  obtain⟨e1,e2⟩:=lh 60 (.lst ds) f2
  exact SeqAt.in_list_reads r2 r1 e1 c1 (by have:=tX (dH (D.pds ds)) da.pd.depth; omega) (by rw [vQ]; exact⟨.bl _,H,I,rfl,q⟩)
 ·obtain⟨bs,r2⟩:=jU I 60 (.tup ds) y u f2 h2 ry
  obtain⟨e1,e2⟩:=lh 60 (.tup ds) f2
  exact SeqAt.in_tuple_reads r2 r1 e1 c1 (by have:=tX (dH (D.pds ds)) da.pd.depth; omega) (by rw [vQ]; exact⟨.bl _,H,I,rfl,q⟩)
theorem av.inL{da:D}(hu:X.A.units+65 < cLine)(ha:lZ X ρ a da)(hb:lZ X ρ b (.lst ds))(f1:D.flat 60 da)(f2: ∀d∈ds,D.flat 59 d)(hm:fE .In b=false:=by with_unfolding_all rfl):av X ρ (.Compare a [.In] [b] pos) (.bl (inD da ds)):=
 av.cmp (DN hu) ha hb hm fun M H x y Q dx dy k=>⟨M,da,ds,dx, .inl dy,f1,f2,k⟩
theorem cG.inL{da:D}(hu:X.A.units+65 < cLine)(ha:lZ X ρ a da)(hb:lZ X ρ b (.lst ds))(f1:D.flat 60 da)(f2: ∀d∈ds,D.flat 59 d)(hm:fE .In b=false:=by with_unfolding_all rfl):cG X ρ (.Compare a [.In] [b] pos) (inD da ds):=
 cG.cmp (DN hu) ha hb hm fun M H x y Q dx dy k=>⟨M,da,ds,dx, .inl dy,f1,f2,k⟩
def D.isNon:D->Bool
 | .non=>true
 | _=>false
theorem CV{K:Frag}{M:MP}{H:Hp}{d:D}{v:V}(h:pj K M H d v):decide (v= .non)=d.isNon:=by
 cases d with
 | non=>cases (show v= .non from h); rfl
 | bl b=>cases (show v= .bl b from h); rfl
 | int b=>cases (show v= .int b from h); rfl
 | str b=>cases (show v= .str b from h); rfl
 | tup ds=>obtain⟨a,_,rfl,_⟩:=h; rfl
 | lst ds=>obtain⟨a,_,rfl,_⟩:=h; rfl
 | ins _ _ _=>obtain⟨a,_,_,rfl,_⟩:=h; rfl
 | exc _=>obtain⟨a,rfl,_⟩:=h; rfl
 | dct _ _=>obtain⟨a,_,rfl,_⟩:=h; rfl
theorem cG.notN{da:D}{j p'}(ha:lZ X ρ a da):cG X ρ (.Compare a [.IsNot] [.Constant .none j p'] pos) (!da.isNon):=
 cG.cmp Hr ha av.non.r (wa _) fun M H x y Q dx dy k=>⟨dy,by rw [CV dx]; exact k⟩
def KJ(K:Frag):R2:=fun x y H Q=> ∃l b xs zs,x= .ref l/\y= .ref b/\ox K H l xs/\ox K H b zs/\xs.length+zs.length<=sizeLine/\ ∀p,H p=none->Q (.ref p) (upd H p (.lst (xs ++ zs)))
theorem Bt(l b:Addr)(xs ys:Array Value)(n m:Nat)(dd de:Option Addr)(sl tl:Array (Option Value))(h0:xs.size+ys.size<=sizeLine):
  Meets (c6.«list.__add__» ⟨[.ref l, .ref b], []⟩) (fun _ R s=>s.heap.get? l=some {cls:= .type "list",dict:=dd,data:= .seq xs n,slots:=sl}/\s.heap.get? b=some {cls:= .type "list",dict:=de,data:= .seq ys m,slots:=tl}/\
   R (.ok (.ret (ak s.heap.objs.size))) {s with heap:=s.heap.push {cls:=cq "list",data:=wN (xs ++ ys)},toks:=s.toks}):=
 .of_wp fun prog w A R s h=>by
  obtain⟨hp,g,d,tk,os⟩:=s
  obtain⟨hl,hb,h⟩:=h
  have f3:=z_
  wp_walk using cj hl,cj hb
  exact⟨_,rfl,h⟩
end
def Walk(K:Frag)(J:It)(ds:List D)(gs:List (D×V)):Prop:= ∀(M:MP) (H:Hp),(∀p∈gs,Dn K M H p.1 p.2)->
 (∀i d,ds[i]? =some d->J.go i H/\ ∀x H',J.LR i H x H'->bJ H H'/\Dn K M H' d x)/\J.stop ds.length H
def tI(X:Cx)(tg iter:Expr):TI:=fun σ H R=> ∀(pins:List (Addr×Obj)) (s:ah),Inv X pins σ H s->
 wpAny (model X.prog X.w) X.A (eval iter X.env) (fun v s1=>wpAny (model X.prog X.w) X.A (tV v) (LY X pins σ tg R) X.xe s1) X.xe s
def ky(X:Cx)(ρ:eT)(tg iter:Expr)(ds:List D):Prop:= ∀(M0:MP) (H0:Hp) (γ:List (D×V)) (α:Nat->Addr) (σ:St) (H:Hp) (R:It->Hp->Prop),Rep X.K M0 H0 γ α ρ σ H->
 (∀J H1 gs,bJ H H1->(∀p∈gs,Dn X.K (MM M0 ρ α) H1 p.1 p.2)->Walk X.K J ds gs->R J H1)->tI X tg iter σ H R
section
variable {X:Cx}{M0:MP}{H0:Hp}{ρ:eT}{P:pM}{e a b c tg iter:Expr}{es:List Expr}{d:D}{ds:List D}{pos p:Pos}{σ:St}{H:Hp}
theorem NG:PI X tg iter (tI X tg iter):=fun pins s σ H R I h=>h pins s I
theorem _root_.L2.PI.to{t:TI}{R:It->Hp->Prop}(h:PI X tg iter t)(q:t σ H R):tI X tg iter σ H R:=fun pins s I=>h pins s σ H R I q
theorem ky.list(h:av X ρ e (.lst ds)):ky X ρ tg e ds:=fun M0 H0 γ α σ H R r k=>(AB g7).to (h M0 H0 γ α σ H _ r fun v H1 s x=>by
 obtain⟨q,xs,rfl,sq,dn⟩:=id x
 refine⟨q,rfl,⟨xs,sq.l⟩,k (L0 X.K q) H1 [(.lst ds, .ref q)] s (fun p hp=>by rw [aJ.mp hp]; exact x) fun M H2 hg=> ?_⟩
 obtain⟨q',xs',e1,sq',dn'⟩:=hg _ (aJ.mpr rfl)
 cases e1
 refine⟨fun i d hi=>⟨?_,fun x H' hy=> ?_⟩,⟨xs',sq'.l,by rw [dn'.len]; exact ay _⟩⟩
 ·obtain⟨v,h1,h2⟩:=dn'.get hi
  exact⟨xs',v,sq'.l,h1⟩
 ·obtain⟨rfl,hy⟩:=hy
  obtain⟨d',h1,h2⟩:=dn'.getV (hy xs' sq'.l)
  rw [hi]at h1; cases h1
  exact⟨bJ.refl _,h2⟩)
theorem ky.tup(h:av X ρ e (.tup ds)):ky X ρ tg e ds:=fun M0 H0 γ α σ H R r k=>(Ji g7).to (h M0 H0 γ α σ H _ r fun v H1 s x=>by
 obtain⟨q,xs,rfl,sq,dn⟩:=id x
 refine⟨q,rfl,⟨xs,sq⟩,k (LC X.K q) H1 [(.tup ds, .ref q)] s (fun p hp=>by rw [aJ.mp hp]; exact x) fun M H2 hg=> ?_⟩
 obtain⟨q',xs',e1,sq',dn'⟩:=hg _ (aJ.mpr rfl)
 cases e1
 refine⟨fun i d hi=>⟨?_,fun x H' hy=> ?_⟩,⟨xs',sq',by rw [dn'.len]; exact ay _⟩⟩
 ·obtain⟨v,h1,h2⟩:=dn'.get hi
  exact⟨xs',v,sq',h1⟩
 ·obtain⟨rfl,hy⟩:=hy
  obtain⟨d',h1,h2⟩:=dn'.getV (hy xs' sq')
  rw [hi]at h1; cases h1
  exact⟨bJ.refl _,h2⟩)
def kB(lo:Int)(n:Nat):List D:=(bD n).map fun(i:Nat)=>D.int (lo+(i:Int))
theorem xA{K:Frag}(lo:Int)(n:Nat):Walk K (Kn lo n) (kB lo n) []:=fun M H _=>by
 refine⟨fun i d hi=> ?_, ?_⟩
 ·unfold kB at hi
  rw [ax]at hi
  cases e:(bD n)[i]? with
  | none=>rw [e]at hi; cases hi
  | some j=>
   rw [e]at hi
   obtain⟨h1,h2⟩:=aD.mp e
   rw [cg]at h1
   rw [FW]at h2
   subst h2
   cases hi
   exact⟨h1,fun x H' ⟨e1,e2⟩=>⟨by rw [e1]; exact bJ.refl _,e2⟩⟩
 ·show n<=_
  unfold kB
  rw [ae,cg]
  exact ay _
theorem ky.range{j:Int}{p1 p2:Pos}(hg:Gl X "range")(hm:X.mg "range"=none)(hs:av X ρ e (.int j))(hj: -(2 ^ 62)<=j/\j < 2 ^ 62)(hss:ar [e] X.env= [(false,eval e X.env)]:=by rfl):
  ky X ρ tg (.Call (.Name "range" p1) [e] [] p2) (kB 0 j.toNat):=fun M0 H0 γ α σ H R r k=>(Bl hg hm wu hss).to ((aP.cons hs aP.nil hss) M0 H0 γ α σ H _ r fun vs H1 s x=>by
 obtain⟨v,r,rfl,e1,e2⟩:=x
 cases e1; cases e2
 exact⟨j,rfl,hj.1,hj.2,k _ H1 [] s (fun _ hp=>nomatch hp) (xA 0 _)⟩)
theorem ky.range2{i j:Int}{p1 p2:Pos}(hg:Gl X "range")(hm:X.mg "range"=none)(ha:av X ρ a (.int i))(hs:av X ρ e (.int j))(hj: -(2 ^ 62)<=i/\i < 2 ^ 62/\ -(2 ^ 62)<=j/\j < 2 ^ 62)
  (hss:ar [a,e] X.env= [(false,eval a X.env),(false,eval e X.env)]:=by rfl)(hs2:ar [e] X.env= [(false,eval e X.env)]:=by rfl):
  ky X ρ tg (.Call (.Name "range" p1) [a,e] [] p2) (kB i (j - i).toNat):=fun M0 H0 γ α σ H R r k=>(Cd hg hm wu hss hs2).to ((aP.cons ha (aP.cons hs aP.nil hs2) (by rw [hss,hs2])) M0 H0 γ α σ H _ r fun vs H1 s x=>by
 obtain⟨v,r,rfl,e1,v2,r2,rfl,e2,e3⟩:=x
 cases e1; cases e2; cases e3
 exact⟨i,j,rfl,hj,k _ H1 [] s (fun _ hp=>nomatch hp) (xA i _)⟩)
theorem Rep.ghosts{K:Frag}{γ:List (D×V)}{α:Nat->Addr}: ∀{gs:List (D×V)},Rep K M0 H0 γ α ρ σ H->(∀p∈gs,Dn K (MM M0 ρ α) H p.1 p.2)->Rep K M0 H0 (gs ++ γ) α ρ σ H:=fun{gs} r h=>
 ⟨r.same,r.old,r.inj,r.im,r.mu,fun p hp=>(bE.mp hp).elim (h p) (r.gh p),r.len⟩
theorem Rep.unghosts{K:Frag}{gs γ:List (D×V)}{α:Nat->Addr}(r:Rep K M0 H0 (gs ++ γ) α ρ σ H):Rep K M0 H0 γ α ρ σ H:=
 ⟨r.same,r.old,r.inj,r.im,r.mu,fun q hq=>r.gh q (aT _ hq),r.len⟩
theorem W1.for{body:List Stmt}(I:Nat->eT->Prop)(hp:tU (model X.prog X.w) X.A X.env X.xe)(hc:X.calm=true)(hs:ky X ρ tg e ds)(h0:I 0 ρ)
  (ht: ∀i d ρ,ds[i]? =some d->I i ρ-> ∃ρ',A1 X tg d ρ ρ'/\WS X M0 H0 body ρ' {P with N:=I (i+1),C:=I (i+1),B:=P.N})(hd: ∀ρ,I ds.length ρ->P.N ρ)
  (hf: ∀x,i_ e X.env x=pure x:=by intro _; rfl):W1 X M0 H0 (.For tg e body [] pos) ρ P:=fun γ α σ H R=>by
 refine(Ed hp hc NG M1 fK hf).to (hs M0 H0 γ α σ H _ R fun J H1 gs s hg w=> ?_)
 refine⟨fun i m σ H=>m=ds.length - i/\i<=ds.length/\ ∃α ρ,Rep X.K M0 H0 (gs ++ γ) α ρ σ H/\I i ρ,⟨ds.length,by simp,bQ _,α,ρ,(R.next s).ghosts hg,h0⟩, ?_⟩
 rintro i m σ2 H2 ⟨rfl,hi,α2,ρ2,R2,i2⟩
 obtain⟨w1,w2⟩:=w (MM M0 ρ2 α2) H2 fun p hp=>R2.gh p (dg _ hp)
 by_cases hlt:i < ds.length
 ·obtain⟨g1,g2⟩:=w1 i ds[i] (ai hlt)
  refine .inr ⟨g1,fun σ' H'=> ∃α ρ,Rep X.K M0 H0 (gs ++ γ) α ρ σ' H'/\I (i+1) ρ,fun σ' H' ⟨α',ρ',R',i'⟩=>⟨ds.length - (i+1),by omega,rfl,hlt,α',ρ',R',i'⟩,fun y H' hy=> ?_⟩
  obtain⟨s2,dd⟩:=g2 y H' hy
  obtain⟨ρ3,g,wb⟩:=ht i _ ρ2 (ai hlt) i2
  exact g M0 H0 _ α2 σ2 _ y _ (R2.next s2) dd fun σ' R3=>DU Rep.unghosts R3 wb
 ·have e:i=ds.length:=by omega
  subst e
  exact .inl ⟨w2,α2,ρ2,R2.unghosts,hd _ i2⟩
end
def jw(X:Cx)(N':List Str)(scope:Scope)(cl:List (Str×Addr))(C:Addr)(s₀:ah)(H₀:Hp)(fp:List Addr)(pins:List (Addr×Obj)):Cx:=
 {X with N:=N',s₀:=s₀,H₀:=H₀,env:=compEnvC scope cl C X.env,outer:=X.stack,stack:=X.stack,ex:=fp,fn:=fun _=>false,pn:=X.pn ++ pins,xe:=fun _ _=>False}
structure eE(X:Cx)(N':List Str)(js:List Nat)(scope:Scope)(x:Str)(cl:List (Str×Addr)):Prop where
 Ca:wQ scope X.env=pure cl
 cell: ∀y∈scope.names,y.2≠ .cell
 kind:scope.kind= .function
 names: ∀y∈scope.names,y.2= .local->scope.names.lookup y.1=some .local
 own:scope.names.lookup x=some .local
 hN: ∃r,N'=x::r/\r.length=js.length/\ ∀(i:Nat) (y:Str) (j:Nat),r[i]? =some y->js[i]? =some j->X.N[j]? =some y/\X.env.scope.names.lookup y=some .cell/\(o8 scope X.env).names.lookup y=some .cell/\ ∀c,X.env.cells.lookup y=some c->cl.lookup y=some c
 sub: ∀y c,cl.lookup y=some c->X.env.cells.lookup y=some c
 has: ∀y,((o8 scope X.env).names.lookup y=some .cell\/(o8 scope X.env).names.lookup y=some .free)-> ∃c,cl.lookup y=some c
section
variable {X:Cx}{pins:List (Addr×Obj)}{σ:St}{H H':Hp}{s:ah}{N':List Str}{js:List Nat}{scope:Scope}{x:Str}{cl:List (Str×Addr)}{px pos:Pos}{elt iter:Expr}
theorem q_(I:Inv X pins σ H s){b:Addr}(h1:b≠X.env.locals)(h2:b∉X.fs):b∉sT X.stack:=fun z=>by
 rcases aK.mp (I.stkSub b z)with e | e
 ·exact h1 e
 ·exact h2 e
theorem eE.cx(ok:eE X N' js scope x cl)(I:Inv X pins σ H s){fp:List Addr}(hf: ∀b∈fp,jF X pins H b)(ho: ∀b∈fp,b < s.heap.objs.size):
  (jw X N' scope cl s.heap.objs.size s H fp pins).Ok where
 mod:=I.ok.mod
 kind:=ok.kind
 glob:=I.ok.glob
 blt:=I.ok.blt
 above:=ay _
 inj:=fun y z c h1 h2=>I.ok.inj y z c (ok.sub y c h1) (ok.sub z c h2)
 has:=fun y h=>ok.has y h
 CD:=fun y c h _=>absurd (show false=true from h) aA
 hd:=I.ok.hd
 frames:=I.ok.frames
 qM:= .inl rfl
 GN:=fun b hb=>⟨aE (ho b hb),fun y c e=>(hf b hb).2.2.2.2.1 y c (ok.sub y c e)⟩
 bs:=I.bs
 wX:=bu I.ok.wX I.sz
 pZ:=fun b o e hb=>by
  rcases(hf b hb).2.2.2.1 with z | z
  ·exact I.ok.pZ b o e z
  ·exact absurd (aX (au e) (bu I.ok.wX z)) (dS _)
 rD:=fun b hb=>q_ I (hf b hb).2.1 (hf b hb).2.2.1
 ll:=I.stack
 zg:=I.stkFree
def JV(σ:St)(js:List Nat):St:=none::js.map fun j=>(σ[j]?).join
theorem eE.inv(ok:eE X N' js scope x cl)(I:Inv X pins σ H s){fp:List Addr}(hf: ∀b∈fp,jF X pins H b)(ho: ∀b∈fp,b < s.heap.objs.size){h₁:Heap}{tk:Nat}{m:Str->Option Value}
  (hn:h₁.Ns s.heap.objs.size m)(k: ∀b o,s.heap.get? b=some o->h₁.get? b=some o):Inv (jw X N' scope cl s.heap.objs.size s H fp pins) [] (JV σ js) H {s with heap:=h₁,toks:=tk}:=by
 obtain⟨r,rfl,hrl,hr⟩:=ok.hN
 refine⟨ok.cx I hf ho,rfl,I.bare,Un.kept k,⟨m,hn,fun i y v h1 h2 _=> ?_⟩,fun y c e=> ?_,I.dO.fresh (ay _),fun y c e=>I.iJ y c (ok.sub y c e),fun p hp=> ?_,I.dO.kept k, ?_⟩
 ·cases i with
  | zero=>have h2':(none:Option V)=some v:=aC h2; cases h2'
  | succ i=>
   have h1':r[i]? =some y:=h1
   have h2':(js.map fun j=>(σ[j]?).join)[i]? =some (some v):=h2
   rw [ax]at h2'
   cases ej:js[i]? with
   | none=>rw [ej]at h2'; cases h2'
   | some j=>
    rw [ej]at h2'
    have h3:(σ[j]?).join=some v:=aC h2'
    have h4:σ[j]? =some (some v):=by
     cases e:σ[j]? with
     | none=>rw [e]at h3; cases h3
     | some w=>rw [e]at h3; exact congrArg some h3
    obtain⟨q1,q2,q3,q4⟩:=hr i y j h1' ej
    obtain⟨m0,_,hl⟩:=I.loc
    obtain⟨u,ru,lk⟩:=hl j y v q1 h4 (.inr (.inl q2))
    refine⟨u,ru, ?_⟩
    rcases lk with⟨z,_⟩ | ⟨_,c,e1,o,e2,e3⟩
    ·have z':X.env.scope.names.lookup y=some .local:=z
     rw [q2]at z'; cases z'
    ·exact .inr ⟨.inl q3,c,q4 c e1,o,k _ _ e2,e3⟩
 ·obtain⟨v,o,e1,e2⟩:=I.cell y c (ok.sub y c e)
  exact⟨v,o,k _ _ e1,e2⟩
 ·have hp':p∈X.pn ++ pins:=by
   have z:p∈(X.pn ++ pins) ++ []:=hp
   rwa [aZ]at z
  obtain⟨e,n,ne,nf,d⟩:=I.pin p hp'
  exact⟨k _ _ e,n,aE (au e),q_ I ne nf,d⟩
 ·show(none::js.map fun j=>(σ[j]?).join).length=(x::r).length
  rw [aH,ae,aH,hrl]
theorem eE.out(ok:eE X N' js scope x cl)(I:Inv X pins σ H s){fp:List Addr}(hf: ∀b∈fp,jF X pins H b){σ':St}{s':ah}(J:Inv (jw X N' scope cl s.heap.objs.size s H fp pins) [] σ' H' s'):
  Inv X pins σ H' s'/\jF X pins H' s.heap.objs.size:=by
 have I':Inv X pins σ H' s':=I.call' (ch:=fp) J.os J.base J.dO J.bare fun b hb=>⟨(hf b hb).2.2.2.1,(hf b hb).2.1,(hf b hb).2.2.2.2.1,(hf b hb).2.2.2.2.2⟩
 exact⟨I',I.fpOk (ay _) J.free⟩
end
section
variable {prog:aq}{w:World}{A:bh}{R:Result->ah->Prop}{s:ah}
abbrev x3:Value->ah->Prop:=fun _ _=>False
theorem Bf{elt target iter:Expr}{scope:Scope}{pos:Pos}{it acc:Value}{env:Env}(I:Nat->ah->Prop)
  (turn: ∀n s,I n s->wpAny (model prog w) A (iS it) (fun r s₁=>match r with
   | none=>R (.ok .next) s₁
   | some v=>wpAny (model prog w) A (nN target it v) (fun _ s₂=>wpAny (model prog w) A (oX target env v) (fun _ s₃=>wpAny (model prog w) A (eval elt env) (fun y s₄=>
     wpAny (model prog w) A (call (.builtin "list.append") [acc,y]) (fun _ s₅=> ∃m,m < n/\I m s₅) x3 s₄) x3 s₃) x3 s₂) x3 s₁) x3 s)(n:Nat)(h:I n s):
  fu (model prog w) A (.compLoop (.ListComp elt [⟨target,iter, [],0⟩] scope pos) 0 it acc env) R s:=by
 refine codeAny_loop rfl I (fun n s hI=> ?_) n h
 show wpAny _ A ((compTurn (.ListComp elt [⟨target,iter, [],0⟩] scope pos) 0 it acc env).onRaise (fun x=>do tZ x env; theTreesLotGoes x)) _ _ s
 refine wpAny_noted ?_
 rw [compTurn_list]
 refine aa (pU (aa (bN (turn n s hI) (fun r s₁ h₁=> ?_) fun _ _ z=>z.elim)))
 cases r with
 | none=>exact af h₁
 | some v=>
  refine aa (bN h₁ (fun _ s₂ h₂=> ?_) fun _ _ z=>z.elim)
  refine aa (bN h₂ (fun _ s₃ h₃=>aa (af ?_)) fun _ _ z=>z.elim)
  exact aa (aa (bN h₃ (fun y s₄ h₄=>aa (bN h₄ (fun _ s₅ h₅=>af (af ⟨rfl,h₅⟩)) fun _ _ z=>z.elim)) fun _ _ z=>z.elim))
end
structure L9(K:Frag)(M:MP)(H1:Hp)(es:List D)(i:Nat)(D0:Addr)(ys:List V)(H:Hp):Prop where
 same:bJ H1 H
 at_:H D0=some (.lst ys)
 dn:cA K (fun a=>M a\/a=D0) H (es.take i) ys
section
variable {X:Cx}{pins:List (Addr×Obj)}{σ:St}{H1:Hp}{s₂:ah}{N':List Str}{js:List Nat}{scope:Scope}{x:Str}{cl:List (Str×Addr)}{px pos:Pos}{elt iter:Expr}{J:It}{fp:List Addr}{it:Addr}{tn:Nat->Heap->Prop}
 {ds es cs:List D}{gs:List (D×V)}{M:MP}{E:Value->ah->Prop}{RR:Value->Addr->Result->ah->Prop}
def kf(d:D)(cs:List D):eT:= .im d::cs.map .im
def C9(K:Frag)(M:MP)(H:Hp)(σ:St)(js:List Nat)(cs:List D):Prop:=js.length=cs.length/\ ∀(k j:Nat) (c:D),js[k]? =some j->cs[k]? =some c-> ∃v,σ[j]? =some (some v)/\Dn K M H c v
theorem sE(ok:eE X N' js scope x cl)(hc:X.calm=true)(hnd:N'.Nodup)(I:Inv X pins σ H1 s₂)(T:Turn X.prog X.w X.K (.Name x px) J fp it tn)(st:tn 0 s₂.heap)(hf: ∀b∈fp,jF X pins H1 b)
  (hg: ∀p∈gs,Dn X.K M H1 p.1 p.2)(w:Walk X.K J ds gs)(hl:es.length=ds.length)(hsz:ds.length<=1000000)(hcap:C9 X.K M H1 σ js cs)(hM: ∀a,M a->H1 a≠none)
  (helt: ∀(C:Addr) (s₀:ah) (H₀:Hp) (i:Nat) (d e:D),ds[i]? =some d->es[i]? =some e->av (jw X N' scope cl C s₀ H₀ fp pins) (kf d cs) elt e)
  (hRR: ∀(D0 C:Addr) (m:Str->Option Value) (s1:ah) (H:Hp) (ys:List V),Inv X pins σ H s1->s1.heap.Ns C m->jF X pins H C->H1 D0=none->bJ H1 H->H D0=some (.lst ys)->cA X.K (fun a=>M a\/a=D0) H es ys->RR (.ref D0) C (.ok .next) s1):
  wpAny (model X.prog X.w) X.A (newList []) (fun acc s₃=>wpAny (model X.prog X.w) X.A (newFunctionEnv scope X.env.globals cl [] X.env.qual none .none (some X.env)) (fun cenv s₄=>
   fu (model X.prog X.w) X.A (.compStart (.ListComp elt [⟨.Name x px,iter, [],0⟩] scope pos) 0 (.ref it) acc {cenv with scope:=o8 scope X.env}) (RR acc cenv.locals) s₄) E s₃) E s₂:=by
 refine bb (wpAny_newFunctionEnv ok.cell (by intro y hy; simp at hy) (fun h₁ hns₁ hsb₁=> ?_) ok.kind)
 dsimp only at hns₁ hsb₁ ⊢
 have hD:H1 s₂.heap.objs.size=none:=I.fresh
 have I3:Inv X pins σ (upd H1 s₂.heap.objs.size (.lst [])) {s₂ with heap:=s₂.heap.push {cls:= .type "list",data:= .seq ([]:List Value).toArray}}:=I.lnew (its:= []) (t':=s₂.toks) (ys:= []) .nil (bQ _)
 have obj2: ∀b∈fp, ∃o,s₂.heap.get? b=some o:=fun b hb=>let⟨o,e,_⟩:=T.obj _ _ st b hb; ⟨o,e⟩
 have lt2: ∀b∈fp,b < s₂.heap.objs.size:=fun b hb=>let⟨o,e⟩:=obj2 b hb; au e
 have hf3: ∀b∈fp,jF X pins (upd H1 s₂.heap.objs.size (.lst [])) b:=fun b hb=>⟨by rw [ck (aE (lt2 b hb))]; exact(hf b hb).1,(hf b hb).2⟩
 generalize hH2:s₂.heap.push {cls:= .type "list",data:= .seq ([]:List Value).toArray}=H2 at I3 hns₁ hsb₁ ⊢
 have sz3:H2.objs.size=s₂.heap.objs.size+1:=by rw [<-hH2,cB]
 have lt3: ∀b∈fp,b < H2.objs.size:=fun b hb=>by rw [sz3]; exact cv (lt2 b hb)
 have k1: ∀b o,H2.get? b=some o->h₁.get? b=some o:=fun b o e=>hsb₁.extBut b o (aE (au e)) (ag _ e)
 have k2: ∀b o,s₂.heap.get? b=some o->h₁.get? b=some o:=fun b o e=>k1 b o (by rw [<-hH2]; exact ag _ e)
 have I4:=ok.inv (tk:=s₂.toks+([]:List (Str×Value)).length) I3 hf3 lt3 hns₁ k1
 have st4:tn 0 h₁:=T.keep _ _ _ st fun b hb o e=>k2 b o e
 generalize hX:jw X N' scope cl H2.objs.size {s₂ with heap:=H2} (upd H1 s₂.heap.objs.size (.lst [])) fp pins=X' at I4
 have hfp: ∀(H:Hp),(∀b∈fp,H b=none)-> ∀b∈fp,jF X' [] H b:=fun H hn b hb=>by
  subst hX
  refine⟨hn b hb,aE (lt3 b hb),q_ I3 (hf3 b hb).2.1 (hf3 b hb).2.2.1, .inl hb,fun y c e=>(hf3 b hb).2.2.2.2.1 y c (ok.sub y c e),fun p hp=> ?_⟩
  have z:p∈(X.pn ++ pins) ++ []:=hp
  rw [aZ]at z
  exact(hf3 b hb).2.2.2.2.2 p z
 have out: ∀(H:Hp) (s1:ah) (σ':St),Inv X' [] σ' H s1->Inv X pins σ H s1/\jF X pins H H2.objs.size:=fun H s1 σ' J=>by
  subst hX
  exact ok.out I3 hf3 J
 have elt': ∀(i:Nat) (d e:D),ds[i]? =some d->es[i]? =some e->av X' (kf d cs) elt e:=fun i d e h1 h2=>by
  subst hX
  exact helt _ _ _ i d e h1 h2
 have env':X'.env=compEnvC scope cl H2.objs.size X.env:=by rw [<-hX]; rfl
 have N0:X'.N=N':=by rw [<-hX]; rfl
 have p1:X'.prog=X.prog:=by rw [<-hX]; rfl
 have p2:X'.w=X.w:=by rw [<-hX]; rfl
 have p3:X'.K=X.K:=by rw [<-hX]; rfl
 have p4:X'.calm=true:=by rw [<-hX]; exact hc
 have p5:X'.A=X.A:=by rw [<-hX]; rfl
 have p6:X'.xe=x3:=by rw [<-hX]; rfl
 clear hX
 obtain⟨r0,er0,hrl,hr⟩:=ok.hN
 have hN0:X'.N[0]? =some x:=by rw [N0,er0]; rfl
 have hLoc:X'.env.scope.names.lookup x=some .local:=by rw [env']; exact lookup_relabel_local ok.own
 have hMD: ∀a,(M a\/a=s₂.heap.objs.size)-> ∀H,bJ H1 H->(∃ys,H s₂.heap.objs.size=some (.lst ys))->H a≠none:=fun a ha H sm hD' z=>by
  rcases ha with ha | rfl
  ·exact hM a ha (sm.free z)
  ·obtain⟨ys,e⟩:=hD'
   rw [z]at e; cases e
 have loop: ∀s₃:ah,s₃={s₂ with heap:=h₁,toks:=s₂.toks+([]:List (Str×Value)).length}->
   fu (model X.prog X.w) X.A (.compLoop (.ListComp elt [⟨.Name x px,iter, [],0⟩] scope pos) 0 (.ref it) (.ref s₂.heap.objs.size) (compEnvC scope cl H2.objs.size X.env)) (RR (.ref s₂.heap.objs.size) H2.objs.size) s₃:=by
  intro s₃ es3
  refine Bf (fun n s'=> ∃(i:Nat) (ys:List V) (H:Hp) (σ':St),n=ds.length - i/\i<=ds.length/\Inv X' [] σ' H s'/\(∃ov,σ'=ov::(JV σ js).tail)/\tn i s'.heap/\(∀b∈fp,H b=none)/\L9 X.K M H1 es i s₂.heap.objs.size ys H) ?_ ds.length
   ⟨0, [],_,_,rfl,bQ _,by rw [es3]; exact I4,⟨none,rfl⟩,by rw [es3]; exact st4,fun b hb=>(hf3 b hb).1,bt hD,bC,by rw [gU]; exact rfl⟩
  rintro n s' ⟨i,ys,H,σ',rfl,hi,Iv,⟨ov,eσ⟩,sti,fri,ci⟩
  have gsH: ∀p∈gs,Dn X.K (fun a=>M a\/a=s₂.heap.objs.size) H p.1 p.2:=fun p hp=>((hg p hp).re fun a m=>m.elim .inl fun z=> .inr (by rw [z]; exact hD)).same ci.same
  obtain⟨w1,w2⟩:=w _ H gsH
  have item:=T.item X' p1 p2 p3 p4 i [] s' σ' H x3 Iv (hfp H fri) sti
  have done:=T.done X' p1 p2 p3 p4 i [] s' σ' H x3 Iv (hfp H fri) sti
  rw [p5]at item done
  by_cases hlt:i < ds.length
  ·obtain⟨g1,g2⟩:=w1 i ds[i] (ai hlt)
   refine eN (item g1) fun r s4 ⟨u,hr',h4⟩=> ?_
   subst hr'
   refine eN h4 fun _ s5 ⟨y,H5,I5,r5,y5,st5,fr5⟩=> ?_
   obtain⟨sm5,d5⟩:=g2 y H5 y5
   have I5':=I5.pinned (hfp H5 fr5) (T.obj _ _ st5)
   have asg:=rf (X:=X') (pos:=px) (i:=0) (by rw [N0]; exact hnd) hN0 (.inl hLoc) (.inr hLoc) _ s5 σ' H5 y u (fun σ6 H6=>σ6=σ'.set 0 (some y)/\H6=H5) I5' r5 ⟨rfl,rfl⟩
   rw [p1,p2,p5,p6,env']at asg
   refine eN asg fun _ s6 ⟨σ6,H6,I6,e6,e6'⟩=> ?_
   subst e6 e6'
   have ei:es[i]? =some (es[i]'(by rw [hl]; exact hlt)):=ai _
   have ev:=elt' i _ _ (ai hlt) ei
   have sm15:bJ H1 H6:=ci.same.trans sm5
   have hD5:H6 s₂.heap.objs.size=some (.lst ys):=sm5 _ _ ci.at_
   have Rp:Rep X'.K (fun a=>M a\/a=s₂.heap.objs.size) H6 [] (fun _=>0) (kf ds[i] cs) (σ'.set 0 (some y)) H6:=by
    refine⟨bJ.refl _,fun a ha=>hMD a ha H6 sm15 ⟨ys,hD5⟩,fun k l fs gs' e1=> ?_,fun k d0 e1=> ?_,fun k fs e1=> ?_,(fun p hp=>by cases hp), ?_⟩
    ·exfalso
     unfold kf at e1
     cases k with
     | zero=>cases aC e1
     | succ k=>
      rw [cu,ax]at e1
      cases z:cs[k]? with
      | none=>rw [z]at e1; cases e1
      | some c=>rw [z]at e1; cases aC e1
    ·have mmM: ∀a,MM (fun a=>M a\/a=s₂.heap.objs.size) (kf ds[i] cs) (fun _=>0) a->(M a\/a=s₂.heap.objs.size):=fun a ha=>by
      rcases ha with ha | ⟨k',fs,e2,_⟩
      ·exact ha
      ·exfalso
       unfold kf at e2
       cases k' with
       | zero=>cases aC e2
       | succ k'=>
        rw [cu,ax]at e2
        cases z:cs[k']? with
        | none=>rw [z]at e2; cases e2
        | some c=>rw [z]at e2; cases aC e2
     subst eσ
     unfold kf at e1
     cases k with
     | zero=>
      have z:Sl.im ds[i]=Sl.im d0:=aC e1
      cases z
      refine⟨y,rfl, ?_⟩
      rw [p3]
      exact d5.less mmM
     | succ k=>
      rw [cu,ax]at e1
      cases z:cs[k]? with
      | none=>rw [z]at e1; cases e1
      | some c=>
       rw [z]at e1
       have z':Sl.im c=Sl.im d0:=aC e1
       have hk:k < js.length:=by rw [hcap.1]; exact(aD.mp z).1
       obtain⟨v,hv,dv⟩:=hcap.2 k js[k] c (ai hk) z
       cases z'
       refine⟨v, ?_, ?_⟩
       ·show(js.map fun j=>(σ[j]?).join)[k]? =some (some v)
        rw [ax,ai hk]
        show some (σ[js[k]]?).join=_
        rw [hv]
        rfl
       ·rw [p3]
        exact(((dv.re fun a m=>m.elim .inl fun q=> .inr (by rw [q]; exact hD)).same sm15)).less mmM
    ·exfalso
     unfold kf at e1
     cases k with
     | zero=>cases aC e1
     | succ k=>
      rw [cu,ax]at e1
      cases z:cs[k]? with
      | none=>rw [z]at e1; cases e1
      | some c=>rw [z]at e1; cases aC e1
    ·subst eσ
     rw [bA]
     show(js.map fun j=>(σ[j]?).join).length+1=(cs.map Sl.im).length+1
     rw [ae,ae,hcap.1]
   have evw:=ev _ H6 [] (fun _=>0) _ H6 (fun v H'=>bJ H6 H'/\Dn X.K (fun a=>M a\/a=s₂.heap.objs.size) H' (es[i]'(by rw [hl]; exact hlt)) v) Rp (fun v H' sm dn=>⟨sm,by
    rw [p3]at dn
    exact dn.less fun a ha=> .inl ha⟩) _ s6 I6
   rw [p1,p2,p5,p6,env']at evw
   refine eN evw fun yv s7 ⟨v,H7,I7,r7,sm7,dn7⟩=> ?_
   have ap:=nD (X:=X') _ s7 _ H7 (.ref s₂.heap.objs.size) [v] (.ref s₂.heap.objs.size) [yv] (fun _ H8=>H8=upd H7 s₂.heap.objs.size (.lst (ys ++ [v]))) I7 rfl (.cons r7 .nil)
    ⟨_,ys,v,rfl,rfl,sm7 _ _ hD5,by rw [ci.dn.len,a8]; exact iV (bu (Nat.min_le_left _ _) (by omega)) (by decide:(1000000:Nat) < sizeLine),rfl⟩
   rw [p1,p2,p5,p6]at ap
   refine eN ap fun _ s8 ⟨_,H8,I8,_,e8⟩=> ?_
   subst e8
   refine⟨ds.length - (i+1),by omega,i+1,ys ++ [v],_,_,rfl,hlt,I8.unpinned,⟨some y,by rw [eσ]; rfl⟩,
    T.keep _ _ _ st5 fun b hb o e=>(I8.pin (b,o) (aT _ (aT _ (gJ hb e)))).1,fun b hb=> ?_, ?_⟩
   ·obtain⟨o,e,_⟩:=T.obj _ _ st5 b hb
    exact(I8.pin (b,o) (aT _ (aT _ (gJ hb e)))).2.1
   ·refine⟨g9 (sm15.trans sm7) hD,bC, ?_⟩
    have kp:oG (fun a=>M a\/a=s₂.heap.objs.size) H7 (upd H7 s₂.heap.objs.size (.lst (ys ++ [v]))):=fun b o e n=>by
     by_cases hb:b=s₂.heap.objs.size
     ·subst hb
      rw [sm7 _ _ hD5]at e; cases e
      exact absurd (.inr rfl) (n _ rfl)
     ·rw [ck hb]; exact e
    rw [eD,ei]
    exact(cA.app (ci.dn.same (sm5.trans sm7)) (cA.one dn7)).keep kp
  ·have e:i=ds.length:=by omega
   subst e
   refine eN (done w2) fun r s4 ⟨hr',I5⟩=> ?_
   subst hr'
   obtain⟨o1,o2⟩:=out H s4 σ' I5
   obtain⟨m,hn,_⟩:=I5.loc
   rw [env']at hn
   refine hRR _ _ m s4 H ys o1 hn o2 hD ci.same ci.at_ ?_
   have:=ci.dn
   rw [<-hl,dh]at this
   exact this
 exact codeAny_compStart_list (loop _ rfl) (T.self X.A 0 _ _ _ st4 (loop _ rfl))
def xB(ρ:eT)(js:List Nat)(cs:List D):Prop:=js.length=cs.length/\ ∀(k j:Nat) (c:D),js[k]? =some j->cs[k]? =some c->ρ[j]? =some (.im c)
theorem xB.ok{K:Frag}{M0:MP}{H0 H H':Hp}{γ:List (D×V)}{α:Nat->Addr}{ρ:eT}{σ:St}(h:xB ρ js cs)(R:Rep K M0 H0 γ α ρ σ H)(s:bJ H H'):C9 K (MM M0 ρ α) H' σ js cs:=
 ⟨h.1,fun k j c e1 e2=>let⟨v,q1,q2⟩:=R.im j c (h.2 k j c e1 e2); ⟨v,q1,q2.same s⟩⟩
theorem iH{K:Frag}{M0:MP}{H0 H H':Hp}{γ:List (D×V)}{α:Nat->Addr}{ρ:eT}{σ:St}(R:Rep K M0 H0 γ α ρ σ H)(s:bJ H H'): ∀a,MM M0 ρ α a->H' a≠none:=fun a ha z=>by
 have z':=s.free z
 rcases ha with ha | ⟨i,ds,e,rfl⟩
 ·exact R.old a ha (R.same.free z')
 ·obtain⟨_,_,xs,e3,_⟩:=R.mu i ds e
  rw [z']at e3; cases e3
theorem dP.comp{ρ:eT}(ok:eE X N' js scope x cl)(hc:X.calm=true)(hnd:N'.Nodup)(hs:ky X ρ (.Name x px) iter ds)(hcs:xB ρ js cs)(hl:es.length=ds.length)(hsz:ds.length<=1000000)
  (helt: ∀(C:Addr) (s₀:ah) (H₀:Hp) (fp:List Addr) (pins:List (Addr×Obj)) (i:Nat) (d e:D),ds[i]? =some d->es[i]? =some e->av (jw X N' scope cl C s₀ H₀ fp pins) (kf d cs) elt e)
  (hfi: ∀v,i_ iter X.env v=pure v:=by intro _; rfl):dP X ρ (.ListComp elt [⟨.Name x px,iter, [],0⟩] scope pos) es:=fun M0 H0 γ α σ H Q R k pins s I=>by
 rw [eval_ListComp]
 refine yL (use:=none) rfl hfi ok.Ca ok.kind ok.names ?_
 have h:=hs M0 H0 γ α σ H (fun J H1=> ∃gs,bJ H H1/\(∀p∈gs,Dn X.K (MM M0 ρ α) H1 p.1 p.2)/\Walk X.K J ds gs) R (fun J H1 gs s g w=>⟨gs,s,g,w⟩) pins s I
 refine eN h fun v s1 h1=>eN h1 fun itv s2 ⟨it,fp,tn,J,H1,e,I2,T,st,f,gs,sm,hg,w⟩=> ?_
 subst e
 refine sE ok hc hnd I2 T st f hg w hl hsz (hcs.ok R sm) (iH R sm) (fun C s₀ H₀ i d e=>helt C s₀ H₀ fp pins i d e) fun D0 C m s1 H2 ys I1 hn fo hD sm1 ha dn=> ?_
 exact⟨m,hn,fun h' sb=>⟨.ref D0,H2,I1.turned (t':=s1.toks) (fun b o hb e=>sb.extBut b o hb e) fo.1 fo.2.1 fo.2.2.2.1 fo.2.2.2.2.1 fo.2.2.2.2.2,rfl,k D0 ys H1 H2 sm hD sm1 ha dn⟩⟩
theorem W1.comp{ρ:eT}{M0:MP}{H0:Hp}{P:pM}{i:Nat}{y:Str}{py spos:Pos}(ok:eE X N' js scope x cl)(hc:X.calm=true)(hnd:N'.Nodup)(hs:ky X ρ (.Name x px) iter ds)(hcs:xB ρ js cs)(hl:es.length=ds.length)(hsz:ds.length<=1000000)
  (helt: ∀(C:Addr) (s₀:ah) (H₀:Hp) (fp:List Addr) (pins:List (Addr×Obj)) (i:Nat) (d e:D),ds[i]? =some d->es[i]? =some e->av (jw X N' scope cl C s₀ H₀ fp pins) (kf d cs) elt e)
  (hN:X.N.Nodup)(hi:X.N[i]? =some y)(hy:X.env.scope.names.lookup y=some .local)(hlt:i < ρ.length)(q:P.N (ρ.set i (.mu es)))
  (hsw:cQ (.ListComp elt [⟨.Name x px,iter, [],0⟩] scope pos) (some (.Name y py)) spos.line X.env=pure true:=by rfl)(hfi: ∀v,i_ iter X.env v=pure v:=by intro _; rfl):
  W1 X M0 H0 (.Assign [.Name y py] (.ListComp elt [⟨.Name x px,iter, [],0⟩] scope pos) spos) ρ P:=fun γ α σ H R pins s I=>by
 rw [exec_Assign_Name_used _ _ _ _ hsw]
 refine aa (pU (aa ?_))
 show wpAny _ X.A (do let _<-comprehension (.ListComp elt [⟨.Name x px,iter, [],0⟩] scope pos) scope X.env _ (newList []) false (eval iter X.env) (some (oX (.Name y py) X.env))) _ _ s
 refine aa (bN (yL (use:=some (oX (.Name y py) X.env)) (Q:=fun _ s'=>SP X pins (ends X.K M0 H0 γ P) .next s') rfl hfi ok.Ca ok.kind ok.names ?_) (fun _ s' hq=>af (af hq)) fun _ _ e=>e)
 have h:=hs M0 H0 γ α σ H (fun J H1=> ∃gs,bJ H H1/\(∀p∈gs,Dn X.K (MM M0 ρ α) H1 p.1 p.2)/\Walk X.K J ds gs) R (fun J H1 gs s g w=>⟨gs,s,g,w⟩) pins s I
 refine eN h fun v s1 h1=>eN h1 fun itv s2 ⟨it,fp,tn,J,H1,e,I2,T,st,f,gs,sm,hg,w⟩=> ?_
 subst e
 refine sE ok hc hnd I2 T st f hg w hl hsz (hcs.ok R sm) (iH R sm) (fun C s₀ H₀ i d e=>helt C s₀ H₀ fp pins i d e) fun D0 C m s1 H2 ys I1 hn fo hD sm1 ha dn=> ?_
 show wpAny _ _ (oX (.Name y py) X.env (.ref D0)) _ _ s1
 refine wpAny_assign_Name (qh (v:= .ref D0) I1 hN hi (.inl hy) rfl (fun s' I' ⟨a,sb,ea⟩=> ?_) (.inr hy))
 have hCa:C≠a:=by
  rcases ea with rfl | ea
  ·exact fo.2.1
  ·exact fun z=>fo.2.2.2.2.1 y a ea z.symm
 refine⟨m,hn.at' fun o e=>sb.extBut C o hCa e,fun h' sb'=>⟨_,H2,I'.turned (t':=s'.toks) (fun b o hb e=>sb'.extBut b o hb e) fo.1 fo.2.1 fo.2.2.2.1 fo.2.2.2.2.1 fo.2.2.2.2.2, ?_⟩⟩
 exact⟨_,_,(R.next sm).set_mu hlt hD sm1 ha dn,q⟩
end
def lQ(K:Frag){ι:Type}(args:ι->List D)(pre:ι->Prop)(res:ι->Except Addr D):Sp:=fun vs H Q E=>
 ∃(i:ι) (M0:MP),(∀a,M0 a->H a≠none)/\cA K M0 H (args i) vs/\pre i/\(∀d,res i= .ok d-> ∀v H',bJ H H'->Dn K M0 H' d v->Q v H')/\(∀C,res i= .error C-> ∀a H',bJ H H'->E (.ref C) a H')
structure lO(P:aq)(w:World)(K:Frag)(mg:Str->Option Value)(base:Heap)(CX:f9)(k:Nat)(x:Str){ι:Type}(args:ι->List D)(pre:ι->Prop)(res:ι->Except Addr D):Prop where
 ex: ∃(f:Addr) (fd:aV) (ps:List Str),mw P w K mg base CX k f fd ps (lQ K args pre res)/\mg x=some (.ref f)/\eY K (.ref f)=true/\Binds K fd ps []
def D.noL:Nat->D->Prop
 | _, .non=>True
 | _, .bl _=>True
 | _, .int _=>True
 | _, .str _=>True
 | n+1, .tup ds=> ∀d∈ds,D.noL n d
 | _,_=>False
theorem Dn.noL{K:Frag}{M M':MP}{H:Hp}: ∀(n:Nat) {d:D} {v:V},D.noL n d->Dn K M H d v->Dn K M' H d v:=by
 intro n
 induction n with
 | zero=>intro d v hf h; cases d <;> first | exact h | exact hf.elim
 | succ n ih=>
  intro d v hf h
  cases d with
  | tup ds=>
   obtain⟨a,xs,e,s,r⟩:=h
   refine⟨a,xs,e,s, ?_⟩
   clear s e
   induction ds generalizing xs with
   | nil=>exact r
   | cons d ds hi=>
    obtain⟨v,t,e,h1,h2⟩:=r
    exact⟨v,t,e,ih (hf d (.head _)) h1,hi (fun x hx=>hf x (.tail _ hx)) t h2⟩
  | non=>exact h
  | bl _=>exact h
  | int _=>exact h
  | str _=>exact h
  | _=>exact hf.elim
section
variable {X:Cx}{ρ:eT}{e:Expr}{es:List Expr}{d:D}{pos p:Pos}{CX:f9}{k:Nat}{x:Str}{ι:Type}{args:ι->List D}{pre:ι->Prop}{res:ι->Except Addr D}
theorem av.call(F:lO X.prog X.w X.K X.mg X.base CX k x args pre res)(hr:fq k X.A)(hx:Passes CX X E0)(hg:Gl X x)(i:ι)(ha:aP X ρ (e::es) (args i))(hp:pre i)(hres:res i= .ok d)(hdb:(x==("__debug__":Str))=false:=by decide)
  (he:ar (e::es) X.env=(false,eval e X.env)::ar es X.env:=by rfl)(hpl:(dZ pos (ar es X.env)).any (·.1)=false:=by rfl):av X ρ (.Call (.Name x p) (e::es) [] pos) d:=fun M0 H0 γ α σ H Q R kk=>by
 obtain⟨f,fd,ps,F,hm,hk,hb⟩:=F.ex
 refine(vV F hr hg hm hk hb .nil hx wu hdb he hpl).to (ha M0 H0 γ α σ H _ R fun vs H1 s1 d1=> ?_)
 show lQ X.K args pre res (vs ++ []) H1 Q E0
 rw [aZ]
 exact⟨i,MM M0 ρ α,iH R s1,d1,hp,fun d' e v H2 s2 dn=>by rw [hres]at e; cases e; exact kk v H2 (s1.trans s2) dn,fun C e=>by rw [hres]at e; cases e⟩
theorem xJ.noM{K:Frag}{M:MP}{H:Hp}: ∀{ds:List D} {vs:List V},xJ K M H ds vs->cA K JA H ds vs
 | [],_,h=>h
 | d::ds,_,⟨v,r,e,h1,h2⟩=>⟨v,r,e,by
   cases d with
   | lst es=>
    obtain⟨a,xs,e1,s,q⟩:=h1
    refine⟨a,xs,e1, ?_,q.less fun _ z=>z.elim⟩
    rcases s with s | s
    ·exact .inl ⟨s,fun z=>z⟩
    ·exact .inr s
   | _=>exact Dn.noM (M:=M) h1,xJ.noM h2⟩
theorem av.callR(F:lO X.prog X.w X.K X.mg X.base CX k x args pre res)(hr:fq k X.A)(hx:Passes CX X E0)(hg:Gl X x)(i:ι)(ha:ue X ρ (e::es) (args i))(hp:pre i)(hres:res i= .ok d)(hd:D.noL 9 d)(hdb:(x==("__debug__":Str))=false:=by decide)
  (he:ar (e::es) X.env=(false,eval e X.env)::ar es X.env:=by rfl)(hpl:(dZ pos (ar es X.env)).any (·.1)=false:=by rfl):av X ρ (.Call (.Name x p) (e::es) [] pos) d:=fun M0 H0 γ α σ H Q R kk=>by
 obtain⟨f,fd,ps,F,hm,hk,hb⟩:=F.ex
 refine(vV F hr hg hm hk hb .nil hx wu hdb he hpl).to (ha M0 H0 γ α σ H _ R fun vs H1 s1 d1=> ?_)
 show lQ X.K args pre res (vs ++ []) H1 Q E0
 rw [aZ]
 exact⟨i,JA,fun a z=>z.elim,d1.noM,hp,fun d' e v H2 s2 dn=>by rw [hres]at e; cases e; exact kk v H2 (s1.trans s2) (Dn.noL 9 hd dn),fun C e=>by rw [hres]at e; cases e⟩
end
section
variable {X:Cx}{ρ:eT}{e:Expr}{ds:List D}{pos p:Pos}
theorem av.lenL(hg:Gl X "len")(hm:X.mg "len"=none)(h:lZ X ρ e (.lst ds))(he:ar [e] X.env= [(false,eval e X.env)]:=by rfl):av X ρ (.Call (.Name "len" p) [e] [] pos) (.int ds.length):=av.len hg hm h rfl he
theorem av.lenT(hg:Gl X "len")(hm:X.mg "len"=none)(h:av X ρ e (.tup ds))(he:ar [e] X.env= [(false,eval e X.env)]:=by rfl):av X ρ (.Call (.Name "len" p) [e] [] pos) (.int ds.length):=av.len hg hm h.r rfl he
theorem dP.listL(hg:Gl X "list")(hm:X.mg "list"=none)(h:lZ X ρ e (.lst ds))(he:ar [e] X.env= [(false,eval e X.env)]:=by rfl):dP X ρ (.Call (.Name "list" p) [e] [] pos) ds:=dP.list hg hm (by decide +kernel) h rfl he
theorem dP.listT(hg:Gl X "list")(hm:X.mg "list"=none)(h:av X ρ e (.tup ds))(he:ar [e] X.env= [(false,eval e X.env)]:=by rfl):dP X ρ (.Call (.Name "list" p) [e] [] pos) ds:=dP.list hg hm (by decide +kernel) h.r rfl he
theorem av.tupleL(hg:Gl X "tuple")(hm:X.mg "tuple"=none)(h:lZ X ρ e (.lst ds))(he:ar [e] X.env= [(false,eval e X.env)]:=by rfl):av X ρ (.Call (.Name "tuple" p) [e] [] pos) (.tup ds):=av.tuple hg hm (by decide +kernel) h rfl he
end
theorem qZ{α β:Type}(g:α->β)(xs:List α)(k:Int):uk (xs.map g) k=(uk xs k).map g:=by
 unfold uk
 rw [ae]
 cases CA xs.length k with
 | none=>rfl
 | some j=>show(xs.map g)[j]? =(xs[j]?).map g; rw [ax]
theorem qa{α:Type}{xs:List α}{k:Int}{j:Nat}(hk:k=(j:Int))(h:j < xs.length):uk xs k=some xs[j]:=by
 subst hk; exact GY (ai h)
def qI(N:List Str)(ds:List D):eT:=ds.map .im ++ gT (N.length - ds.length) .un
section
variable {P:aq}{w:World}{K:Frag}{mg:Str->Option Value}{base:Heap}{CX:f9}{k:Nat}{x qual:Str}{st:Stmt}{f:Addr}{fd:aV}{N ps:List Str}{ι:Type}{args:ι->List D}{pre:ι->Prop}{res:ι->Except Addr D}
theorem rep0{ds:List D}{vs:List V}{M0:MP}{H:Hp}{α:Nat->Addr}(hM: ∀a,M0 a->H a≠none)(h:cA K M0 H ds vs):Rep K M0 H [] α (qI N ds) (L2.start N vs) H:=by
 have hl:=h.len
 have get: ∀(i:Nat) (s:Sl),(qI N ds)[i]? =some s->(∃d,ds[i]? =some d/\s= .im d)\/s= .un:=fun i s e=>by
  unfold qI at e
  by_cases hi:i < ds.length
  ·rw [fj (by simpa using hi),ax,ai hi]at e
   exact .inl ⟨_,ai hi,(aC e).symm⟩
  ·rw [eZ (by simpa using hi),yX]at e
   split at e
   ·exact .inr (aC e).symm
   ·cases e
 refine⟨bJ.refl _,hM,fun i j es fs e1=> ?_,fun i d e=> ?_,fun i es e=> ?_,(fun p hp=>by cases hp), ?_⟩
 ·rcases get i _ e1 with⟨_,_,z⟩ | z <;> cases z
 ·rcases get i _ e with⟨d',e1,z⟩ | z
  ·cases z
   obtain⟨v,q1,q2⟩:=h.get e1
   have hi:i < vs.length:=(aD.mp q1).1
   refine⟨v, ?_,q2.less fun a z=> ?_⟩
   ·unfold L2.start
    rw [fj (by simpa using hi),ax,q1]
    rfl
   ·rcases z with z | ⟨j,es,e2,_⟩
    ·exact z
    ·rcases get j _ e2 with⟨_,_,z⟩ | z <;> cases z
  ·cases z
 ·rcases get i _ e with⟨_,_,z⟩ | z <;> cases z
 ·unfold L2.start qI
  simp only [ao,ae,jq,hl]
theorem fg(F:jo K x qual st f fd)(S:bL N ps (aF st))(hm:mg x=some (.ref f))(hb:Binds K fd ps [])(hl: ∀i,(args i).length=ps.length)
  (body: ∀(cdv:Value) (A:bh) (outer:List Env) (s:ah) (H:Hp) (E:XK) (i:ι) (M0:MP),pre i->fq k (A.deeper (j8 qual (aF st) s.heap.objs.size f cdv))->
   ∃d,res i= .ok d/\WS (kz CX P w K mg base N qual (aF st) f cdv A outer s H E).nox M0 H (ba st) (qI N (args i)) {N:=fun _=>d= .non,R:=fun d'=>d'=d}):lO P w K mg base CX (k+1) x args pre res:=by
 refine⟨f,fd,ps, ?_,hm,F.kp,hb⟩
 obtain⟨oc,od,kV,doc,pm,an,cdv,ct,osl,rfl,lk,hcd⟩:=F.ex
 refine xY lk hcd S (fun vs H Q E ⟨i,M0,_,h,_⟩=>by rw [h.len,hl]) fun A outer s H vs Q E hr hsp=> ?_
 obtain⟨i,M0,hM,h,hp,k1,k2⟩:=hsp
 obtain⟨d,hd,ws⟩:=body cdv A outer s H E i M0 hp hr
 refine⟨nj _ (ba st),(fK (X:=(kz CX P w K mg base N qual (aF st) f cdv A outer s H E).nox)).nox, ?_⟩
 refine nj.mono (En:=ends K M0 H [] {N:=fun _=>d= .non,R:=fun d'=>d'=d}) (fun σ' H' ⟨α,ρ,R,e⟩=> ?_) (fun v H' ⟨d',e,sm,dn⟩=> ?_) (fun _ _ ⟨_,_,_,z⟩=>z.elim) (fun _ _ ⟨_,_,_,z⟩=>z.elim) (ws [] (fun _=>0) _ H (rep0 hM h))
 ·exact k1 d hd .non H' R.same (by rw [e]; exact rfl)
 ·subst e
  exact k1 _ hd v H' sm dn
end
def IG:D->String
 | .non=>"NoneType"
 | .bl _=>"bool"
 | .int _=>"int"
 | .str _=>"str"
 | .tup _=>"tuple"
 | .lst _=>"list"
 | .ins _ _ _=>""
 | .exc _=>""
 | .dct _ _=>""
def oB:D->Bool
 | .ins _ _ _=>false
 | .exc _=>false
 | .dct _ _=>false
 | _=>true
def vb(T:String)(d:D):Bool:=IG d==T || (T=="int"&&IG d=="bool")
section
variable {K:Frag}
theorem Jv{d:D}{T:String}(hp:oB d=true)(hT:T="int"\/T="bool"\/T="str"\/T="tuple"\/T="list"):aQ K (.type (IG d)) (.type T)=some (vb T d):=by
 rcases hT with rfl | rfl | rfl | rfl | rfl <;> cases d <;> first | rfl | (cases hp)
end
section
variable {X:Cx}{ρ:eT}{M0:MP}{H0:Hp}{P:pM}{e a b:Expr}{es:List Expr}{d:D}{ds:List D}{pos p p2:Pos}
theorem Ka{pins:List (Addr×Obj)}{σ:St}{H:Hp}{s:ah}{M:MP}{v:V}{u c:Value}{r:Bool}{Q:Value->ah->Prop}{E:Value->ah->Prop}{A:bh}(I:Inv X pins σ H s)(h:pj X.K M H d v)(rv:RelV v u)(hp:oB d=true)
  (e:aQ X.K (.type (IG d)) c=some r)(k: ∀tk,Q (.bool r) {s with toks:=tk}):wpAny (model X.prog X.w) A (call (.builtin "isinstance") [u,c]) Q E s:=by
 cases d with
 | non=>cases (show v= .non from h); cases (show u=aY from rv); exact iC PySem.W.kitx_none I.kIn cN e (fun z=>nomatch z) k
 | bl y=>cases (show v= .bl y from h); cases (show u=fD y from rv); exact iC PySem.W.kitx_bool I.kIn cN e (fun z=>nomatch z) k
 | int i=>cases (show v= .int i from h); obtain⟨t,q⟩:=(show ∃t,u=gD i t from rv); cases q; exact iC PySem.W.kitx_int I.kIn cN e (fun z=>nomatch z) k
 | str y=>cases (show v= .str y from h); obtain⟨t,q⟩:=(show ∃t,u=yW y t from rv); cases q; exact iC PySem.W.kitx_str I.kIn cN e (fun z=>nomatch z) k
 | tup ds=>
  obtain⟨a,xs,rfl,sq,_⟩:=h
  cases (show u=ak a from rv)
  obtain⟨its,_,⟨o,h1,h2,_⟩,_⟩:=I.tuple sq
  exact iC PySem.W.kitx_tuple I.kIn ⟨o,h1,h2⟩ e (fun z=>nomatch z) k
 | lst ds=>
  obtain⟨a,xs,rfl,sq,_⟩:=h
  cases (show u=ak a from rv)
  obtain⟨its,_,⟨o,n,h1,h2,_⟩,_⟩:=I.list sq
  exact iC PySem.W.kitx_list I.kIn ⟨o,h1,h2⟩ e (fun z=>nomatch z) k
 | _=>cases hp
theorem Gh{pins:List (Addr×Obj)}{σ:St}{H:Hp}{s:ah}{M:MP}{v:V}{u:Value}{tp:Addr}{dd:Option Addr}{its:List Value}{n:Nat}{sl:Array (Option Value)}{r:Bool}{Q:Value->ah->Prop}{E:Value->ah->Prop}{A:bh}(I:Inv X pins σ H s)(h:pj X.K M H d v)(rv:RelV v u)(hp:oB d=true)
  (ht:s.heap.get? tp=some ⟨.type "tuple",dd, .seq its.toArray n,sl⟩)(e:PySem.W.kitAny X.K (.type (IG d)) its=some r)(k: ∀tk,Q (.bool r) {s with toks:=tk}):wpAny (model X.prog X.w) A (call (.builtin "isinstance") [u, .ref tp]) Q E s:=by
 cases d with
 | non=>cases (show v= .non from h); cases (show u=aY from rv); exact j9 PySem.W.kitx_none I.kIn cN ht e (fun z=>nomatch z) k
 | bl y=>cases (show v= .bl y from h); cases (show u=fD y from rv); exact j9 PySem.W.kitx_bool I.kIn cN ht e (fun z=>nomatch z) k
 | int i=>cases (show v= .int i from h); obtain⟨t,q⟩:=(show ∃t,u=gD i t from rv); cases q; exact j9 PySem.W.kitx_int I.kIn cN ht e (fun z=>nomatch z) k
 | str y=>cases (show v= .str y from h); obtain⟨t,q⟩:=(show ∃t,u=yW y t from rv); cases q; exact j9 PySem.W.kitx_str I.kIn cN ht e (fun z=>nomatch z) k
 | tup ds=>
  obtain⟨a,xs,rfl,sq,_⟩:=h
  cases (show u=ak a from rv)
  obtain⟨its,_,⟨o,h1,h2,_⟩,_⟩:=I.tuple sq
  exact j9 PySem.W.kitx_tuple I.kIn ⟨o,h1,h2⟩ ht e (fun z=>nomatch z) k
 | lst ds=>
  obtain⟨a,xs,rfl,sq,_⟩:=h
  cases (show u=ak a from rv)
  obtain⟨its,_,⟨o,n,h1,h2,_⟩,_⟩:=I.list sq
  exact j9 PySem.W.kitx_list I.kIn ⟨o,h1,h2⟩ ht e (fun z=>nomatch z) k
 | _=>cases hp
def LM(K:Frag):List V->Hp->VK->Prop:=fun xs H Q=> ∃v T M d,xs= [v, .ty T]/\pj K M H d v/\oB d=true/\(T="int"\/T="bool"\/T="str"\/T="tuple"\/T="list")/\Q (.bl (vb T d)) H
theorem E_:gK X (.builtin "isinstance") (LM X.K):=by
 intro pins s σ H xs us Q I r ⟨v,T,M,d,e,h,hp,hT,q⟩
 subst e
 obtain⟨u,c,rfl,r1,r2⟩:=vals2 r
 cases (show c=cq T from r2)
 exact Ka I h r1 hp (Jv hp hT) fun tk=>⟨.bl _,H,I.tok tk,rfl,q⟩
theorem av.rC{T:String}{x:Str}(hg:Gl X "isinstance")(hm:X.mg "isinstance"=none)(hgT:Gl X x)(hmT:X.mg x=none)(hv:cZ x=some (.type T))(hT:T="int"\/T="bool"\/T="str"\/T="tuple"\/T="list")(h:lZ X ρ e d)(hp:oB d=true)
  (he:ar [e, .Name x p2] X.env=(false,eval e X.env)::ar [.Name x p2] X.env:=by rfl)(he2:ar [.Name x p2] X.env= [(false,eval (.Name x p2) X.env)]:=by rfl)(hpl:(dZ pos (ar [.Name x p2] X.env)).any (·.1)=false:=by rfl)
  (hn:x≠"__name__":=by decide)(hd:(x==("__debug__":Str))=false:=by decide):av X ρ (.Call (.Name "isinstance" p) [e, .Name x p2] [] pos) (.bl (vb T d)):=fun M0 H0 γ α σ H Q R k=>
 (gZ E_ hg hm uD (dG g7 (dG (rh (v:= .ty T) hgT hmT hv rfl hn hd) gG he2) he) (by decide) (by decide) he hpl).to (h M0 H0 γ α σ H _ R fun v H1 s1 d1=>⟨v,T,_,d,rfl,d1,hp,hT,k _ H1 s1 rfl⟩)
def dN(ns:List Int):Nat:=(firstMet (fun i=>ns.getD i 0) ns.length).length
theorem BG(hc:X.calm=true):gK X (.type "set") (fun xs H Q=> ∃q ns,xs= [.ref q]/\ox X.K H q (ns.map V.int)/\ns.length < 4000/\ ∀l S,H l=none->Q (.ref l) (upd H l (.set S (dN ns)))):=by
 intro pins s σ H xs us Q I r ⟨q,ns,e,hq,hl,k⟩
 subst e
 obtain⟨u,rfl,rx⟩:=vals1 r
 cases rx
 obtain⟨its,r',pl,hz⟩:=I.list hq
 have hlen:=r'.length
 rw [ae]at hlen
 have e:its.toArray.size=ns.length:=by rw [az]; exact hlen.symm
 refine PySem.call_set_list (I.ok.hd hc) pl.isList (intsAre_of r') (by rw [e]; unfold scanBound; omega) fun h' tk hS hk=> ?_
 rw [e]at hS
 exact⟨.ref s.heap.objs.size,_,I.laid (t':=tk) (fun b o e=>hk b o (au e) e) (ay _) (o:= .set _ (dN ns)) hS,rfl,k _ _ I.fresh⟩
theorem yk:gK X (.builtin "len") (fun xs H Q=> ∃q S n,xs= [.ref q]/\H q=some (.set S n)/\Q (.int n) H):=by
 intro pins s σ H xs us Q I r ⟨q,S,n,e,hq,k⟩
 subst e
 obtain⟨u,rfl,rx⟩:=vals1 r
 cases rx
 obtain⟨o,es,ep,t,h1,h2,h3,_,_,h6,h7,h8⟩:=(show s.heap.SetOf (fG X.prog X.w) q S n from I.dO q _ hq)
 refine call_len_set h1 h2 h3 h7 (by unfold scanBound at h6; omega) ⟨.int n,H,I.tok _,⟨_,by rw [h8]⟩,k⟩
theorem av.lenSet{ns:List Int}{p3:Pos}(hc:X.calm=true)(hg:Gl X "len")(hm:X.mg "len"=none)(hg2:Gl X "set")(hm2:X.mg "set"=none)(h:lZ X ρ e (.lst (ns.map .int)))(hl:ns.length < 4000)
  (he:ar [e] X.env= [(false,eval e X.env)]:=by rfl)(he2:ar [.Call (.Name "set" p2) [e] [] p3] X.env= [(false,eval (.Call (.Name "set" p2) [e] [] p3) X.env)]:=by rfl):av X ρ (.Call (.Name "len" p) [.Call (.Name "set" p2) [e] [] p3] [] pos) (.int (dN ns)):=fun M0 H0 γ α σ H Q R k=>
 (gZ yk hg hm PySem.boot_len (dG (jP (BG hc) hg2 hm2 (by decide +kernel) (dG g7 gG he) (by decide) (by decide) he) gG he2) (by decide) (by decide) he2).to (h M0 H0 γ α σ H _ R fun v H1 s1 d1=>by
  obtain⟨q,xs,rfl,sq,dn⟩:=d1
  rw [dn.ints]at sq
  exact⟨q,ns,rfl,sq,hl,fun l S hl'=>⟨l,S,_,rfl,bC,k _ _ (s1.trans (bt hl')) rfl⟩⟩)
theorem Lf(ns:List Int):dN ns<=ns.length:=firstMet_length_le _ _
theorem BN(l:List Int): ∀σ:List Int,σ.Nodup->(∀x∈l,x∈σ->False)->l.Nodup->(l.foldl jA σ).length=σ.length+l.length:=by
 induction l with
 | nil=>intro σ _ _ _; rfl
 | cons a l ih=>
  intro σ h1 h2 h3
  rw [eF]at h3
  have na:a∉σ:=fun z=>h2 a (.head _) z
  rw [IQ]
  have e:jA σ a=σ ++ [a]:=by
   unfold jA
   rw [if_neg]
   simpa using na
  rw [e,ih]
  ·simp only [ao,aH,c7]; omega
  ·rw [jd]
   exact⟨h1,by simp,fun x hx y hy z=>by rw [aJ.mp hy]at z; exact na (z▸hx)⟩
  ·intro x hx hm
   rcases bE.mp hm with hm | hm
   ·exact h2 x (.tail _ hx) hm
   ·rw [aJ.mp hm]at hx; exact h3.1 hx
  ·exact h3.2
theorem E3(l:List Int): ∀σ:List Int, ¬(σ ++ l).Nodup->σ.Nodup->(l.foldl jA σ).length < σ.length+l.length:=by
 induction l with
 | nil=>intro σ h1 h2; rw [aZ]at h1; exact absurd h2 h1
 | cons a l ih=>
  intro σ h1 h2
  rw [IQ]
  by_cases ha:a∈σ
  ·have e:jA σ a=σ:=by
    unfold jA
    rw [if_pos]
    simpa using ha
   rw [e]
   have:=length_foldl_step_dedup_le l σ
   rw [aH]; omega
  ·have e:jA σ a=σ ++ [a]:=by
    unfold jA
    rw [if_neg]
    simpa using ha
   rw [e]
   have:=ih (σ ++ [a]) (by rw [aM]; exact h1) (by
    rw [jd]
    exact⟨h2,by simp,fun x hx y hy z=>by rw [aJ.mp hy]at z; exact ha (z▸hx)⟩)
   rw [ao,fb]at this
   rw [aH]; omega
theorem range_getD(ns:List Int):(bD ns.length).map (fun i=>ns.getD i 0)=ns:=by
 apply fy
 intro i
 rw [ax]
 by_cases h:i < ns.length
 ·rw [CG h,ai h]
  show some (ns.getD i 0)=_
  rw [aG,ai h]
  rfl
 ·rw [bq (by rw [cg]; omega),bq (by omega)]
  rfl
theorem Fq(ns:List Int):dN ns=ns.length↔ns.Nodup:=by
 have e:dN ns=(ns.foldl jA []).length:=by unfold dN firstMet; rw [range_getD]
 rw [e]
 by_cases h:ns.Nodup
 ·exact⟨fun _=>h,fun _=>by rw [BN ns [] oY (fun _ _ z=>by cases z) h]; simp⟩
 ·refine⟨fun z=> ?_,fun z=>absurd z h⟩
  have:=E3 ns [] (by simpa using h) oY
  simp only [c7,Aa]at this
  omega
theorem HN:nX X (jG .Add) (KJ X.K):=by
 intro pins s σ H x y v u Q I rx ry h
 obtain⟨l,b,xs,zs,rfl,rfl,hH,hB,hz,q⟩:=h
 cases rx
 cases ry
 obtain⟨its,r,⟨⟨oc,od,odt,osl⟩,n,e1,ec,ed,edt⟩,_⟩:=I.list hH
 obtain⟨its2,r2,⟨⟨oc2,od2,odt2,osl2⟩,n2,e2,ec2,ed2,edt2⟩,_⟩:=I.list hB
 have hl:=r.length
 have hl2:=r2.length
 simp only at ec ed edt ec2 ed2 edt2
 subst ec ed edt ec2 ed2 edt2
 refine z7 ⟨_,e1,rfl⟩ ⟨_,e2,rfl⟩ noFill_list_add seq_list_add F.slot_list_add F.entry_list_add (F.args_list_add_2 _ _) (Bt l b its.toArray its2.toArray n n2 none none osl osl2 (by rw [az,az]; omega)) ⟨e1,e2, ?_⟩
 have ea:its.toArray ++ its2.toArray=(its ++ its2).toArray:=by simp
 rw [ea]
 exact⟨.ref _,_,I.lnew (t':=s.toks) (r.append r2) (by rw [ao]; omega),rfl,q _ I.fresh⟩
theorem dP.cat{fs:List D}(ha:lZ X ρ a (.lst ds))(hb:lZ X ρ b (.lst fs))(hl:ds.length+fs.length<=1000000):dP X ρ (.BinOp a .Add b pos) (ds ++ fs):=fun M0 H0 γ α σ H Q R k=>
 (DP HN g7 g7).to (ha M0 H0 γ α σ H _ R fun v H1 s1 d1=>hb M0 H0 γ α σ H1 _ (R.next s1) fun u H2 s2 d2=>by
  obtain⟨q,xs,rfl,sq,dn⟩:=d1.same s2
  obtain⟨q2,xs2,rfl,sq2,dn2⟩:=d2
  exact⟨q,q2,xs,xs2,rfl,rfl,sq,sq2,by rw [dn.len,dn2.len]; exact jE hl,fun l hl'=>k l _ H2 _ (s1.trans s2) hl' (bt hl') bC ((rG hl' (cA.app dn dn2)).same (bt hl'))⟩)
theorem W1.popAt{i j:Nat}{x y:Str}{k:Int}{n:Nat}{p1 p3 p4:Pos}(hN:X.N.Nodup)(hi:X.N[i]? =some x)(hv:yy X.env.scope x)(hρ:ρ[i]? =some (.mu ds))(hj:X.N[j]? =some y)(hy:Loc X.env.scope y)(hlt:j < ρ.length)(hij:j≠i)(h:av X ρ e (.int k))
  (hk:k=(n:Int))(hn:ds[n]? =some d)(hn2:n < 1000000)(q:P.N ((ρ.set i (.mu (ds.eraseIdx n))).set j (.im d)))
  (mc:Kg X (.Name x p1) "pop" e p2 p3)(hd:(x==("__debug__":Str))=false:=by decide)(hcd:(x==("__classdict__":Str))=false:=by decide)
  (hs:cQ (.Call (.Attribute (.Name x p1) "pop" p2) [e] [] p3) (some (.Name y p4)) pos.line X.env=pure false:=by rfl)(hf:X.fn y=true\/X.env.scope.names.lookup y=some .local:=by first | exact .inl rfl | exact .inr rfl | assumption):
  W1 X M0 H0 (.Assign [.Name y p4] (.Call (.Attribute (.Name x p1) "pop" p2) [e] [] p3) pos) ρ P:=fun γ α σ H R=>by
 obtain⟨m1,m2,m3,m4⟩:=mc
 obtain⟨a1,a2,xs,a3,a4⟩:=R.mu i ds hρ
 refine(qd hN hj hy (Fx mB PySem.F.slot_list_pop PySem.F.type_list_pop C8 (lU hi hv hd hcd) wu m1 m2 m3 m4 rfl) hs hf).to ?_
 refine⟨_,a2, .inl ⟨rfl,_,ox.of a3⟩,(aP.cons h aP.nil m4) M0 H0 γ α σ H _ R fun vs H1 s y1=> ?_⟩
 obtain⟨v,r,rfl,e1,e2⟩:=y1
 cases e2
 cases (show v= .int k from e1)
 subst hk
 obtain⟨u,hu,du⟩:=(a4.same s).get hn
 have hlen:=a4.len
 have hnl:n < xs.length:=(aD.mp hu).1
 have R1:=(R.next s).upd_mu hρ ((a4.same s).erase n)
 refine⟨α i,xs,(n:Int),n,u,rfl,rfl,s _ _ a3,by omega,by omega,(q9 (by unfold CA; rw [if_pos (by omega),if_pos (by omega)]; simp)).1,hu,α,_,R1.set_im (by rw [bA]; exact hlt) ?_,q⟩
 have kp:oG (MM M0 ρ α) H1 (upd H1 (α i) (.lst (xs.eraseIdx n))):=fun b o e n'=>by
  by_cases hb:b=α i
  ·subst hb
   rw [s _ _ a3]at e; cases e
   exact absurd (.inr ⟨i,ds,hρ,rfl⟩) (n' _ rfl)
  ·rw [ck hb]; exact e
 refine(du.keep kp).less fun a z=> ?_
 rcases z with z | ⟨l,es,e,z⟩
 ·exact .inl z
 ·rcases get_set e with⟨rfl,_⟩ | ⟨_,q⟩
  ·exact .inr ⟨l,ds,hρ,z⟩
  ·exact .inr ⟨l,es,q,z⟩
theorem W1.setIx{i n:Nat}{x:Str}{k:Int}{p1 p3:Pos}(hi:X.N[i]? =some x)(hv:yy X.env.scope x)(hρ:ρ[i]? =some (.mu ds))(h:av X ρ e d)(hb:av X ρ b (.int k))(hk:k=(n:Int))(hn:n < ds.length)(q:P.N (ρ.set i (.mu (ds.set n d))))
  (hd:(x==("__debug__":Str))=false:=by decide)(hcd:(x==("__classdict__":Str))=false:=by decide)
  (hs:swapsWithSole [.Subscript (.Name x p1) b p3] e pos.line X.env=pure false:=by rfl)(hw:swappedStores [.Subscript (.Name x p1) b p3] e X.env=pure none:=by rfl)
  (h1:(assignEach [.Subscript (.Name x p1) b p3] X.env).map (·.2)= [oX (.Subscript (.Name x p1) b p3) X.env]:=by rfl)
  (ha: ∀v,oX (.Subscript (.Name x p1) b p3) X.env v=(do
   let ov<-kg [v] (eval (.Name x p1) X.env)
   let iv<-kg [v,ov] (eval b X.env)
   standAt p3
   kg [v,ov,iv] (setItem ov iv v)
   release [v,ov,iv] []):=by intro _; rfl):
  W1 X M0 H0 (.Assign [.Subscript (.Name x p1) b p3] e pos) ρ P:=fun γ α σ H R=>by
 obtain⟨a1,a2,xs,a3,a4⟩:=R.mu i ds hρ
 refine(JS g7 (Jy (lU hi hv hd hcd) g7 set_list ha) hs hw h1).to (h M0 H0 γ α σ H _ R fun v H1 s1 d1=>⟨_,a2,hb M0 H0 γ α σ H1 _ (R.next s1) fun u H2 s2 d2=> ?_⟩)
 cases (show u= .int k from d2)
 subst hk
 have hl:=a4.len
 refine⟨α i,xs,(n:Int),n,rfl,rfl,s2 _ _ (s1 _ _ a3),by unfold CA; rw [if_pos (by omega),if_pos (by omega)]; simp,α,_,((R.next s1).next s2).upd_mu hρ ?_,q⟩
 exact cA.set (d1.same s2) n ((a4.same s1).same s2)
theorem W1.extend{i:Nat}{x:Str}{p1 p3:Pos}{fs:List D}(hi:X.N[i]? =some x)(hv:yy X.env.scope x)(hρ:ρ[i]? =some (.mu ds))(h:av X ρ e d)(hq:uM d fs)(hl:ds.length+fs.length<=1000000)(q:P.N (ρ.set i (.mu (ds ++ fs))))
  (mc:Kg X (.Name x p1) "extend" e p2 p3)(hd:(x==("__debug__":Str))=false:=by decide)(hcd:(x==("__classdict__":Str))=false:=by decide)(hsw:cQ (.Call (.Attribute (.Name x p1) "extend" p2) [e] [] p3) none pos.line X.env=pure false:=by rfl):
  W1 X M0 H0 (.Expr (.Call (.Attribute (.Name x p1) "extend" p2) [e] [] p3) pos) ρ P:=
 W1.mt1 mB PySem.F.slot_list_extend PySem.F.type_list_extend Hv hi hv hρ h (fun M H l xs v Q a b c k=>by
  obtain⟨q1,ys,rfl,sq,dn⟩:=vA hq c.t
  exact⟨l,q1,xs,ys,rfl,rfl,a,sq,by rw [b.len,dn.len]; exact jE hl,k _ _ (cA.app b dn)⟩) q mc hd hcd hsw
end
def xj(t:Bool)(ds:List D):D:=if t then .tup ds else .lst ds
section
variable {X:Cx}{ρ:eT}{e a b tg:Expr}{d:D}{ds:List D}{pos p:Pos}{t:Bool}
theorem Dz(t:Bool)(ds:List D):uM (xj t ds) ds:=by cases t <;> rfl
theorem av.lenS(hg:Gl X "len")(hm:X.mg "len"=none)(h:av X ρ e (xj t ds))(he:ar [e] X.env= [(false,eval e X.env)]:=by rfl):av X ρ (.Call (.Name "len" p) [e] [] pos) (.int ds.length):=av.len hg hm h.r (Dz t ds) he
theorem dP.listS(hg:Gl X "list")(hm:X.mg "list"=none)(h:av X ρ e (xj t ds))(he:ar [e] X.env= [(false,eval e X.env)]:=by rfl):dP X ρ (.Call (.Name "list" p) [e] [] pos) ds:=dP.list hg hm (by decide +kernel) h.r (Dz t ds) he
theorem av.tupleS(hg:Gl X "tuple")(hm:X.mg "tuple"=none)(h:av X ρ e (xj t ds))(he:ar [e] X.env= [(false,eval e X.env)]:=by rfl):av X ρ (.Call (.Name "tuple" p) [e] [] pos) (.tup ds):=av.tuple hg hm (by decide +kernel) h.r (Dz t ds) he
theorem av.ixS{k:Int}(ha:av X ρ a (xj t ds))(hb:av X ρ b (.int k))(hk:uk ds k=some d)(hs:pv b:=by intro _ _; rfl):av X ρ (.Subscript a b pos) d:=by
 cases t with
 | true=>exact av.ixT ha hb hk hs
 | false=>exact av.ixL ha.r hb hk hs
theorem ky.seq(h:av X ρ e (xj t ds)):ky X ρ tg e ds:=by
 cases t with
 | true=>exact ky.tup h
 | false=>exact ky.list h
end
theorem wq{scope:Scope}{env:Env}(h: ∀y∈scope.names,y.2≠ .free):(o8 scope env).names=scope.names:=by
 unfold o8
 dsimp only
 have: ∀l:List (Str×jH),(∀y∈l,y.2≠ .free)->(l.map fun(n,k)=>if(k==yM&&env.scope.kind== .function&&env.kindOf n==some .cell)then(n,NameKind.cell)else(n,k))=l:=by
  intro l
  induction l with
  | nil=>intro _; rfl
  | cons y l ih=>
   intro hl
   obtain⟨n,k⟩:=y
   rw [bf,ih fun z hz=>hl z (.tail _ hz)]
   have hk:(k==yM)=false:=by
    have:=hl (n,k) (.head _)
    cases k <;> first | rfl | exact absurd rfl this
   simp [hk]
 exact this _ h
theorem eE.closed{X:Cx}{scope:Scope}{x:Str}(hf: ∀y∈scope.names,y.2≠ .free)(hc: ∀y∈scope.names,y.2≠ .cell)(hk:scope.kind= .function)(hn: ∀y∈scope.names,y.2= .local->scope.names.lookup y.1=some .local)(ho:scope.names.lookup x=some .local):
  eE X [x] [] scope x [] where
 Ca:=closureFor_none hf
 cell:=hc
 kind:=hk
 names:=hn
 own:=ho
 hN:=⟨[],rfl,rfl,fun i y j h=>by simp at h⟩
 sub:=fun y c h=>by simp at h
 has:=fun y h=>by
  rw [wq hf]at h
  rcases h with h | h
  ·exact absurd rfl (hc _ (cD h))
  ·exact absurd rfl (hf _ (cD h))
theorem wg{ρ:eT}:xB ρ [] []:=⟨rfl,fun k j c h=>by simp at h⟩
theorem ky.to{X:Cx}{ρ:eT}{tg e:Expr}{ds ds':List D}(h:ky X ρ tg e ds)(q:ds=ds'):ky X ρ tg e ds':=q▸h
section
variable {X:Cx}{ρ:eT}{x:Str}{d:D}{ds:List D}{pos:Pos}
theorem gC{i:Nat}{ρ:eT}(h:Nat.ble (i+1) ρ.length=true):i < ρ.length:=jr h
theorem nm(i:Nat)(hN:X.N[i]? =some x)(hρ:ρ[i]? =some (.im d))(hv:yy X.env.scope x:=by first | exact Or.inl rfl | exact Or.inr (Or.inl rfl) | exact Or.inr (Or.inr rfl))(hd:(x==("__debug__":Str))=false:=by decide)(hcd:(x==("__classdict__":Str))=false:=by decide):av X ρ (.Name x pos) d:=av.name i hN hv hρ hd hcd
theorem A0(i:Nat)(hN:X.N[i]? =some x)(hρ:ρ[i]? =some (.mu ds))(hv:yy X.env.scope x:=by first | exact Or.inl rfl | exact Or.inr (Or.inl rfl) | exact Or.inr (Or.inr rfl))(hd:(x==("__debug__":Str))=false:=by decide)(hcd:(x==("__classdict__":Str))=false:=by decide):lZ X ρ (.Name x pos) (.lst ds):=lZ.name i hN hv hρ hd hcd
theorem jV{lo:Int}{n i:Nat}{d:D}(h:(kB lo n)[i]? =some d):d= .int (lo+(i:Int))/\i < n:=by
 unfold kB at h
 rw [ax]at h
 cases e:(bD n)[i]? with
 | none=>rw [e]at h; cases h
 | some j=>
  rw [e]at h
  obtain⟨h1,h2⟩:=aD.mp e
  rw [cg]at h1
  rw [FW]at h2
  subst h2
  exact⟨(aC h).symm,h1⟩
theorem g6{lo:Int}{n:Nat}:(kB lo n).length=n:=by unfold kB; rw [ae,cg]
end
end Z
namespace K
open PySem L2 Z
abbrev St:=L2.St
def top(i:Nat):Stmt:=PySem.Challenge.pw_cranefloor_k07_what_is_refused.main.body.getD i (.Pass ⟨0,0,0,0⟩)
abbrev Ep:Stmt:=top 45
abbrev zc:Stmt:=top 49
abbrev CP:Stmt:=top 50
abbrev nz:Stmt:=top 51
abbrev rm:Stmt:=top 21
abbrev l0:Stmt:=top 22
abbrev rP:Stmt:=top 23
abbrev zI:Stmt:=top 24
abbrev zv:Stmt:=top 25
abbrev vY:Stmt:=top 26
abbrev pC:Stmt:=top 32
abbrev HC:Stmt:=top 31
abbrev vH:Stmt:=top 33
abbrev vW:Stmt:=top 30
abbrev pB:Stmt:=top 29
abbrev sr:Stmt:=top 28
abbrev A5:Stmt:=top 47
abbrev Hx:Stmt:=top 48
abbrev rd:Stmt:=top 53
abbrev HM:Stmt:=top 55
abbrev nG:Stmt:=top 40
abbrev mP:Stmt:=top 39
abbrev r6:Stmt:=top 41
abbrev DS:Stmt:=top 42
abbrev sI:Stmt:=top 43
abbrev lW:Stmt:=top 36
abbrev jQ:Stmt:=top 37
abbrev mj:Stmt:=top 38
abbrev wj:Stmt:=top 52
abbrev Gm:Stmt:=top 54
structure Bn(mg:Str->Option Value):Prop where
 len:mg "len"=none
 range:mg "range"=none
 list:mg "list"=none
 tuple:mg "tuple"=none
 set:mg "set"=none
def NX(CX:f9):Prop:= ∀l H s e s',CX l H s E0 e s'->False
theorem aO{CX:f9}{X:Cx}(h:NX CX):Passes CX X E0:=fun _ _ H s e s' _ z=>(h _ H s e s' z).elim
def cellAt(ns:List Int)(k:Nat):Int:=ns.getD k 0
def pD(p:Int×Int):D:= .tup [.int p.1, .int p.2]
structure dM where
 st:Int
 ht:Int
 lf:Int
 i3:List (Int×Int)
def dM.d(f:dM):D:= .tup [.int f.st, .int f.ht, .int f.lf, .lst (f.i3.map pD)]
def gw(ns:List Int)(first most:Nat):Nat->List (Int×Int)
 | 0=> []
 | k+1=>
  let p:=cellAt ns (first+1+k)
  if p % most=p / most % most then gw ns first most k else gw ns first most k ++ [(p % most,p / most % most)]
def sj(ns:List Int)(first most:Nat):dM:=
 let c:=cellAt ns first
 ⟨2+c % 3,1+c / 3 % 6,1+c / 18 % 3,gw ns first most (c / 72 % 5).toNat⟩
theorem mI(ns:List Int)(first most:Nat): ∀k,(gw ns first most k).length<=k
 | 0=>ay _
 | k+1=>by
  have:=mI ns first most k
  unfold gw
  dsimp only
  split
  ·omega
  ·rw [ao,fb]; omega
section
variable {P:aq}{w:World}{K:Frag}{mg:Str->Option Value}{base:Heap}{CX:f9}
theorem J9:bL ["script","k"] ["script","k"] (aF Ep):=⟨rfl,rfl,rfl,by decide +kernel,rfl,by decide +kernel,by decide +kernel⟩
abbrev Aq(P:aq)(w:World)(K:Frag)(mg:Str->Option Value)(base:Heap)(CX:f9):Prop:=
 lO P w K mg base CX 1 "_law_cell_at" (fun i:List Int×Nat=> [.lst (i.1.map .int), .int i.2]) (fun _=>True) (fun i=> .ok (.int (cellAt i.1 i.2)))
theorem HP{f:Addr}{fd:aV}(B:Bn mg)(F:jo K "_law_cell_at" "_law_cell_at" Ep f fd)(hm:mg "_law_cell_at"=some (.ref f))(hb:Binds K fd ["script","k"] []):Aq P w K mg base CX:=by
 refine fg F J9 hm hb (fun i=>rfl) fun cdv A outer s H E i M0 hp hr=>⟨_,rfl, ?_⟩
 obtain⟨ns,k⟩:=i
 refine WS.cons (W1.ite (cG.cI .lt (av.name 1 rfl (.inl rfl) rfl) (av.lenL rfl B.len (av.name 0 rfl (.inl rfl) rfl).r)) (fun h=> ?_) fun h=> ?_)
 ·have h':(k:Int) < ns.length:=by simpa using of_decide_eq_true h
  have hk:k < ns.length:=by omega
  refine WS.one (W1.ret (av.ixL (av.name 0 rfl (.inl rfl) rfl).r (av.name 1 rfl (.inl rfl) rfl) (d:= .int (cellAt ns k)) ?_) rfl)
  rw [qZ,qa rfl hk]
  show some (D.int ns[k])=some (D.int (ns.getD k 0))
  rw [aG,ai hk]
  rfl
 ·refine WS.nil (WS.one (W1.ret av.int ?_))
  have h': ¬(k:Int) < ns.length:=by simpa using of_decide_eq_false h
  show D.int 0=D.int (ns.getD k 0)
  rw [aG,bq (by omega)]
  rfl
theorem Ay:bL ["script","first","most","cell","bans","k","pair","one","other"] ["script","first","most"] (aF zc):=⟨rfl,rfl,rfl,by decide +kernel,rfl,by decide +kernel,by decide +kernel⟩
abbrev zQ(P:aq)(w:World)(K:Frag)(mg:Str->Option Value)(base:Heap)(CX:f9):Prop:=
 lO P w K mg base CX 2 "_law_floor" (fun i:List Int×Nat×Nat=> [.lst (i.1.map .int), .int i.2.1, .int i.2.2]) (fun i=>0 < i.2.2/\i.2.2 < 1000) (fun i=> .ok (sj i.1 i.2.1 i.2.2).d)
theorem Fi{f:Addr}{fd:aV}(nx:NX CX)(B:Bn mg)(G1:Aq P w K mg base CX)(F:jo K "_law_floor" "_law_floor" zc f fd)(hm:mg "_law_floor"=some (.ref f))(hb:Binds K fd ["script","first","most"] []):zQ P w K mg base CX:=by
 refine fg F Ay hm hb (fun i=>rfl) fun cdv A outer s H E i M0 hp hr=>⟨_,rfl, ?_⟩
 obtain⟨ns,first,most⟩:=i
 obtain⟨hp1,hp2⟩:0 < most/\most < 1000:=hp
 have px:=Ay.nd
 refine WS.cons (W1.set (i:=3) px rfl (.inl rfl) (gC rfl) (av.call G1 hr (aO nx) rfl (ns,first) (aP.cons (nm 0 rfl rfl) (aP.cons (nm 1 rfl rfl) aP.nil)) trivial rfl) ?_)
 refine WS.cons (W1.setF (i:=4) px rfl (.inl rfl) (gC rfl) (dP.lst aP.nil) ?_)
 refine WS.cons (W1.for (ds:=kB 0 (cellAt ns first / 72 % 5).toNat) (fun i ρ=> ∃a b c d,ρ= [.im (.lst (ns.map .int)), .im (.int first), .im (.int most), .im (.int (cellAt ns first)), .mu ((gw ns first most i).map pD),a,b,c,d]) cp rfl
  (ky.range rfl B.range (av.mod (av.fdiv (nm 3 rfl rfl) av.int ⟨by decide,by decide⟩) av.int (by decide)) (by omega)) ⟨_,_,_,_,rfl⟩ ?_ ?_)
 ·rintro i d ρ hd ⟨a,b,c,d',rfl⟩
  obtain⟨rfl,hi⟩:=jV hd
  have hlen:=mI ns first most i
  refine⟨_,A1.name (i:=5) px rfl (.inl rfl) (gC rfl), ?_⟩
  have e1:(first:Int)+1+(0+(i:Int))=((first+1+i:Nat):Int):=by omega
  refine WS.cons (W1.set (i:=6) px rfl (.inl rfl) (gC rfl) (av.call G1 hr (aO nx) rfl (ns,first+1+i) (aP.cons (nm 0 rfl rfl) (aP.cons ((av.add (av.add (nm 1 rfl rfl) av.int) (nm 5 rfl rfl)).to (by rw [e1])) aP.nil)) trivial rfl) ?_)
  refine WS.cons (W1.set (i:=7) px rfl (.inl rfl) (gC rfl) (av.mod (nm 6 rfl rfl) (nm 2 rfl rfl) (by omega)) ?_)
  refine WS.cons (W1.set (i:=8) px rfl (.inl rfl) (gC rfl) (av.mod (av.fdiv (nm 6 rfl rfl) (nm 2 rfl rfl) ⟨by omega,by omega⟩) (nm 2 rfl rfl) (by omega)) ?_)
  refine WS.one (W1.ite (cG.cI .ne (nm 7 rfl rfl) (nm 8 rfl rfl)) (fun h=> ?_) fun h=> ?_)
  ·refine WS.one (W1.append (i:=4) rfl (.inl rfl) rfl (av.tup (aP.cons (nm 7 rfl rfl) (aP.cons (nm 8 rfl rfl) aP.nil))) (by rw [ae]; omega) ?_ ⟨rfl,rfl,rfl,rfl⟩)
   have hne: ¬cellAt ns (first+1+i) % most=cellAt ns (first+1+i) / most % most:=by simpa using h
   have hB:gw ns first most (i+1)=gw ns first most i ++ [(cellAt ns (first+1+i) % most,cellAt ns (first+1+i) / most % most)]:=by
    rw [gw]; exact if_neg hne
   dsimp only
   rw [hB,bo]
   exact⟨_,_,_,_,rfl⟩
  ·have he:cellAt ns (first+1+i) % most=cellAt ns (first+1+i) / most % most:=by simpa using h
   have hB:gw ns first most (i+1)=gw ns first most i:=by
    rw [gw]; exact if_pos he
   refine WS.nil ?_
   dsimp only
   rw [hB]
   exact⟨_,_,_,_,rfl⟩
 ·rintro ρ ⟨a,b,c,d,rfl⟩
  rw [g6]
  refine WS.freeze (i:=4) rfl (WS.one (W1.ret (av.tup (aP.cons (av.add av.int (av.mod (nm 3 rfl rfl) av.int (by decide))) (aP.cons (av.add av.int (av.mod (av.fdiv (nm 3 rfl rfl) av.int ⟨by decide,by decide⟩) av.int (by decide)))
   (aP.cons (av.add av.int (av.mod (av.fdiv (nm 3 rfl rfl) av.int ⟨by decide,by decide⟩) av.int (by decide))) (aP.cons (nm 4 rfl rfl) aP.nil))))) rfl))
def vB(f:dM)(r:List Int)(k:Nat):Bool:=(decide (0<=r.getD k 0)&&decide (r.getD k 0<=9))&& !(decide (0 < k)&&decide ((r.getD k 0,r.getD (k - 1) 0)∈f.i3))
def jk(f:dM)(r:List Int):Bool:=decide ((r.length:Int)<=f.ht)&&(bD r.length).all (vB f r)
def good(f:dM)(rows:List (List Int)):Bool:=(decide ((rows.length:Int)=f.st)&&decide rows.flatten.Nodup)&&rows.all (jk f)
theorem sV{k:Nat}{A:bh}(hr:fq k A):A.units+65 < cLine:=by have:=hr.un; omega
theorem rS{r:List Int}{k:Nat}{z:Int}(h:k < r.length)(e:z=(k:Int)):uk (r.map D.int) z=some (.int (r.getD k 0)):=by
 rw [qZ,qa e h,aG,ai h]
 rfl
theorem qc(p:Int×Int)(bs:List (Int×Int)):inD (pD p) (bs.map pD)=decide (p∈bs):=by
 induction bs with
 | nil=>rfl
 | cons b bs ih=>
  show(D.eqv (pD b) (pD p) || inD (pD p) (bs.map pD))=_
  rw [ih]
  have e:D.eqv (pD b) (pD p)=decide (p=b):=by
   obtain⟨b1,b2⟩:=b
   obtain⟨p1,p2⟩:=p
   simp only [D.eqv,pD,D.pd,D.pds,iU,dw,gE]
   by_cases h:p1=b1/\p2=b2
   ·obtain⟨rfl,rfl⟩:=h; simp
   ·rw [decide_eq_false (by simpa using h)]
    simp only [jt,beq_eq_false_iff_ne]
    by_cases h1:p1=b1
    ·exact .inr fun z=>h ⟨h1,z.symm⟩
    ·exact .inl fun z=>h1 z.symm
  rw [e]
  by_cases h:p=b <;> simp [h]
theorem vF(n:Nat)(p:Int×Int):D.flat (n+1) (pD p):=by
 intro d hd
 rcases aK.mp hd with rfl | hd
 ·cases n <;> exact trivial
 ·rw [aJ.mp hd]; cases n <;> exact trivial
theorem xF{n:Nat}{bs:List (Int×Int)}: ∀d∈bs.map pD,D.flat (n+1) d:=fun d hd=>by
 obtain⟨p,_,rfl⟩:=a9.mp hd
 exact vF n p
def bF(t:Bool)(rows:List (List Int)):List D:=rows.map fun r=>xj t (r.map .int)
theorem CK:bL ["floor","standing","crates","stack","k"] ["floor","standing"] (aF CP):=⟨rfl,rfl,rfl,by decide +kernel,rfl,by decide +kernel,by decide +kernel⟩
abbrev A4(P:aq)(w:World)(K:Frag)(mg:Str->Option Value)(base:Heap)(CX:f9):Prop:=
 lO P w K mg base CX 1 "_law_good" (fun i:dM×Bool×List (List Int)=> [i.1.d,xj i.2.1 (bF i.2.1 i.2.2)]) (fun i=>i.2.2.flatten.length < 4000/\i.2.2.length < 4000) (fun i=> .ok (.bl (good i.1 i.2.2)))
theorem kl{rows:List (List Int)}{r:List Int}(h:r∈rows):r.length<=rows.flatten.length:=by
 induction rows with
 | nil=>cases h
 | cons a rows ih=>
  rw [cw,ao]
  rcases aK.mp h with rfl | h
  ·omega
  ·have:=ih h; omega
theorem kZ{rows:List (List Int)}{i:Nat}{r:List Int}(h:rows[i]? =some r):(rows.take (i+1)).flatten=(rows.take i).flatten ++ r:=by
 rw [eD,h,pS]
 simp
theorem ji(rows:List (List Int))(i:Nat):(rows.take i).flatten.length<=rows.flatten.length:=by
 have e:rows.flatten=(rows.take i).flatten ++ (rows.drop i).flatten:=by rw [<-pS,aU]
 rw [e,ao]; omega
theorem iu{t:Bool}{rows:List (List Int)}{i:Nat}{d:D}(h:(bF t rows)[i]? =some d): ∃r,rows[i]? =some r/\d=xj t (r.map .int):=by
 unfold bF at h
 rw [ax]at h
 cases e:rows[i]? with
 | none=>rw [e]at h; cases h
 | some r=>rw [e]at h; exact⟨r,rfl,(aC h).symm⟩
theorem Hd{f:Addr}{fd:aV}(nx:NX CX)(B:Bn mg)(F:jo K "_law_good" "_law_good" CP f fd)(hm:mg "_law_good"=some (.ref f))(hb:Binds K fd ["floor","standing"] []):A4 P w K mg base CX:=by
 refine fg F CK hm hb (fun i=>rfl) fun cdv A outer s H E i M0 hp hr=>⟨_,rfl, ?_⟩
 obtain⟨fl,t,rows⟩:=i
 obtain⟨hp1,hp2⟩:rows.flatten.length < 4000/\rows.length < 4000:=hp
 have px:=CK.nd
 have hlen:(bF t rows).length=rows.length:=ae ..
 refine WS.cons (W1.setF (i:=2) px rfl (.inl rfl) (gC rfl) (dP.lst aP.nil) ?_)
 refine WS.cons (W1.for (ds:=bF t rows) (fun i ρ=> ∃a b,ρ= [.im fl.d, .im (xj t (bF t rows)), .mu ((rows.take i).flatten.map .int),a,b]) cp rfl (ky.seq (nm 1 rfl rfl)) ⟨_,_,by rw [gU]; rfl⟩ ?_ ?_)
 ·rintro i d ρ hd ⟨a,b,rfl⟩
  obtain⟨r,hr',rfl⟩:=iu hd
  have l1:=ji rows i
  have l2:=kl (aW hr')
  refine⟨_,A1.name (i:=3) px rfl (.inl rfl) (gC rfl), ?_⟩
  refine WS.one (W1.extend (i:=2) (fs:=r.map .int) rfl (.inl rfl) rfl (dP.toD (dP.listS rfl B.list (nm 3 rfl rfl))) rfl (by rw [ae,ae]; omega) ?_ ⟨rfl,rfl,rfl,rfl⟩)
  dsimp only
  rw [kZ hr',bo]
  exact⟨_,_,rfl⟩
 rintro ρ ⟨a,b,rfl⟩
 rw [hlen,dh]
 refine WS.cons (W1.ite (i5.t (i5.or (cG.cI .ne (av.lenS rfl B.len (nm 1 rfl rfl)) (av.ixT (nm 0 rfl rfl) av.int rfl)) fun _=>i5.or1 (cG.cI .lt (av.lenSet rfl rfl B.len rfl B.set (A0 2 rfl rfl) hp1) (av.lenL rfl B.len (A0 2 rfl rfl))))) (fun h=> ?_) fun h=> ?_)
 ·refine WS.one (W1.ret av.bl ?_)
  rw [hlen,ae]at h
  have:good fl rows=false:=by
   unfold good
   by_cases h1:(rows.length:Int)=fl.st
   ·have h2: ¬rows.flatten.Nodup:=fun z=>by
     rw [decide_eq_true h1,eP,Bool.false_or,(Fq _).mpr z]at h
     have:=of_decide_eq_true h
     omega
    rw [decide_eq_false h2,kT,eX]
   ·rw [decide_eq_false h1,eX,eX]
  show D.bl false=D.bl (good fl rows)
  rw [this]
 refine WS.nil ?_
 rw [hlen,ae,Bool.or_eq_false_iff]at h
 have g1:(rows.length:Int)=fl.st:=by simpa using h.1
 have g2:rows.flatten.Nodup:=(Fq _).mp (by
  have h2:=of_decide_eq_false h.2
  have:=Lf rows.flatten
  omega)
 refine WS.cons (W1.for (ds:=bF t rows) (fun i ρ=>(rows.take i).all (jk fl)=true/\ ∃a b,ρ= [.im fl.d, .im (xj t (bF t rows)), .mu (rows.flatten.map .int),a,b]) cp rfl (ky.seq (nm 1 rfl rfl)) ⟨by rw [gU]; rfl,_,_,rfl⟩ ?_ ?_)
 ·rintro i d ρ hd ⟨hall,a,b,rfl⟩
  obtain⟨r,hr',rfl⟩:=iu hd
  have l2:=kl (aW hr')
  have bad:jk fl r=false->good fl rows=false:=fun hf=>by
   unfold good
   have:rows.all (jk fl)=false:=by
    rw [Gd]
    exact⟨r,aW hr',by rw [hf]; exact aA⟩
   rw [this,kT]
  refine⟨_,A1.name (i:=3) px rfl (.inl rfl) (gC rfl), ?_⟩
  refine WS.cons (W1.ite (cG.cI .gt (av.lenS rfl B.len (nm 3 rfl rfl)) (av.ixT (nm 0 rfl rfl) av.int rfl)) (fun h3=> ?_) fun h3=>WS.nil ?_)
  ·refine WS.one (W1.ret av.bl ?_)
   have h4:=of_decide_eq_true h3
   rw [ae]at h4
   show D.bl false=D.bl (good fl rows)
   rw [bad (by unfold jk; rw [decide_eq_false (by omega),eX])]
  have h4:=of_decide_eq_false h3
  rw [ae]at h4
  refine WS.one (W1.for (ds:=kB 0 r.length) (fun j ρ=>(bD j).all (vB fl r)=true/\ ∃b,ρ= [.im fl.d, .im (xj t (bF t rows)), .mu (rows.flatten.map .int), .im (xj t (r.map .int)),b]) cp rfl
   (ky.to (ky.range rfl B.range (av.lenS rfl B.len (nm 3 rfl rfl)) (by rw [ae]; omega)) (by rw [ae]; rfl)) ⟨rfl,_,rfl⟩ ?_ ?_)
  ·rintro j d ρ hd2 ⟨hall2,b,rfl⟩
   obtain⟨rfl,hj⟩:=jV hd2
   refine⟨_,A1.name (i:=4) px rfl (.inl rfl) (gC rfl), ?_⟩
   have z0:(0:Int)+(j:Int)=(j:Int):=by omega
   refine WS.one (W1.ite (i5.t (i5.or (cG.not (cG.chain .le .le av.int (av.ixS (nm 3 rfl rfl) (nm 4 rfl rfl) (rS hj z0)) av.int)) fun _=>i5.or1 (i5.t (i5.and (cG.cI .gt (nm 4 rfl rfl) av.int) fun hz=>i5.and1
    (cG.inL (da:=pD (r.getD j 0,r.getD (j - 1) 0)) (ds:=fl.i3.map pD) (sV hr) (av.r (av.tup (aP.cons (av.ixS (nm 3 rfl rfl) (nm 4 rfl rfl) (rS hj z0)) (aP.cons (av.ixS (nm 3 rfl rfl) (av.sub (nm 4 rfl rfl) av.int) (rS (k:=j - 1) (by omega) (by have:=of_decide_eq_true hz; omega))) aP.nil))))
     (av.r (av.ixT (nm 0 rfl rfl) av.int rfl)) (vF 59 _) xF))))) (fun h5=> ?_) fun h5=> ?_)
   ·refine WS.one (W1.ret av.bl ?_)
    show D.bl false=D.bl (good fl rows)
    rw [bad]
    unfold jk
    have:(bD r.length).all (vB fl r)=false:=by
     rw [Gd]
     refine⟨j,gS.mpr hj, ?_⟩
     unfold vB
     rw [qc,z0]at h5
     simp only [uE,gN,bx,decide_eq_true_eq]at h5
     simp only [bx,gN,decide_eq_true_eq,jt,decide_eq_false_iff_not]
     rintro⟨⟨q1,q2⟩,q3⟩
     rcases h5 with h5 | ⟨h5,h6⟩
     ·rw [decide_eq_true q1,decide_eq_true q2]at h5; cases h5
     ·rcases q3 with q3 | q3
      ·exact q3 (by omega)
      ·exact q3 h6
    rw [this,kT]
   ·refine WS.nil ⟨?_,_,rfl⟩
    rw [nQ,uF,hall2]
    rw [qc,z0]at h5
    show(vB fl r j&&true)=true
    rw [gE]
    unfold vB
    simp only [Bool.or_eq_false_iff,Bool.not_eq_false',jt,decide_eq_false_iff_not]at h5
    obtain⟨h5,h6⟩:=h5
    rw [h5,iz]
    simp only [gN,jt,decide_eq_false_iff_not]
    rcases h6 with h6 | h6
    ·exact .inl fun z=>h6 (by omega)
    ·exact .inr h6
  ·rintro ρ ⟨hall2,b,rfl⟩
   rw [g6]at hall2
   refine⟨?_,_,_,rfl⟩
   rw [eD,hr',uF,hall]
   show(jk fl r&&true)=true
   rw [gE]
   unfold jk
   rw [hall2,decide_eq_true (by omega)]
   rfl
 ·rintro ρ ⟨hall,a,b,rfl⟩
  rw [hlen,dh]at hall
  refine WS.one (W1.ret av.bl ?_)
  show D.bl true=D.bl (good fl rows)
  unfold good
  rw [hall,decide_eq_true g1,decide_eq_true g2]
  rfl
end
def gO(f:dM)(cell:Int)(st:List (List Int)×Option Int)(k:Nat):List (List Int)×Option Int:=
 match st.2 with
 | none=>st
 | some c=>
  let n:=((cell / 61+k) % f.st).toNat
  let wider:=st.1.set n (st.1.getD n [] ++ [c])
  if good f wider then(wider,none)else st
def place(f:dM)(cell:Int)(rows:List (List Int))(c:Int)(n:Nat):List (List Int)×Option Int:=(bD n).foldl (gO f cell) (rows,some c)
def sH(f:dM):Nat->Int->List (List Int)->List Int->List (List Int)
 | 0,_,rows,_=>rows
 | m+1,cell,rows,left=>
  let cell':=(cell * 48271+17) % 2147483647
  let i:=(cell' / 7 % left.length).toNat
  sH f m cell' (place f cell' rows (left.getD i 0) f.st.toNat).1 (left.eraseIdx i)
def fc(f:dM)(cell:Int)(crates:List Int):List (List Int):=sH f crates.length cell (gT f.st.toNat []) crates
def M7:Option Int->D
 | none=> .non
 | some c=> .int c
theorem ot(f:dM)(cell:Int)(rows:List (List Int))(c:Int)(n:Nat):place f cell rows c (n+1)=gO f cell (place f cell rows c n) n:=by
 unfold place
 rw [nQ,List.foldl_append]
 rfl
theorem pk{rows:List (List Int)}{n:Nat}{r:List Int}{k:Nat}(h:r.length<=(rows.getD n []).length+k):(rows.set n r).flatten.length<=rows.flatten.length+k:=by
 induction rows generalizing n with
 | nil=>simp
 | cons a rows ih=>
  cases n with
  | zero=>
   rw [List.set_cons_zero,cw,cw,ao,ao]
   have:(List.getD (a::rows) 0 []).length=a.length:=rfl
   omega
  | succ n=>
   rw [FX,cw,cw,ao,ao]
   have:=ih (n:=n) (by simpa using h)
   omega
theorem uA(f:dM)(cell:Int)(st:List (List Int)×Option Int)(k:Nat):(gO f cell st k).1.length=st.1.length/\(gO f cell st k).1.flatten.length+(if(gO f cell st k).2.isSome then 1 else 0)<=st.1.flatten.length+(if st.2.isSome then 1 else 0):=by
 obtain⟨rows,oc⟩:=st
 cases oc with
 | none=>exact⟨rfl,ay _⟩
 | some c=>
  unfold gO
  dsimp only
  split
  ·refine⟨bA .., ?_⟩
   have:=pk (rows:=rows) (n:=((cell / 61+k) % f.st).toNat) (r:=rows.getD ((cell / 61+k) % f.st).toNat [] ++ [c]) (k:=1) (by rw [ao]; exact ay _)
   simpa using this
  ·exact⟨rfl,ay _⟩
theorem place_len(f:dM)(cell:Int)(rows:List (List Int))(c:Int): ∀n,(place f cell rows c n).1.length=rows.length/\(place f cell rows c n).1.flatten.length+(if(place f cell rows c n).2.isSome then 1 else 0)<=rows.flatten.length+1
 | 0=>⟨rfl,ay _⟩
 | n+1=>by
  obtain⟨a,b⟩:=place_len f cell rows c n
  obtain⟨a',b'⟩:=uA f cell (place f cell rows c n) n
  rw [ot]
  exact⟨a'.trans a,bu b' b⟩
theorem vf{α β:Type}(g:α->β): ∀(l:List α) (n:Nat),(l.map g).eraseIdx n=(l.eraseIdx n).map g
 | [],_=>rfl
 | _::_,0=>rfl
 | a::l,n+1=>by rw [bf,List.eraseIdx_cons_succ,List.eraseIdx_cons_succ,bf,vf g l n]
def Ik(i:Nat)(ρ:eT):Nat:=match ρ[i]? with
 | some (Sl.mu ds)=>ds.length
 | _=>0
theorem Bg{t:Bool}{rows:List (List Int)}{n:Nat}{r:List Int}:bF t (rows.set n r)=(bF t rows).set n (xj t (r.map .int)):=by
 unfold bF
 rw [List.map_set]
theorem lx{t:Bool}{rows:List (List Int)}:(bF t rows).length=rows.length:=ae ..
theorem AD(ns:List Int):D.eqv (.lst (ns.map .int)) (.lst [])=decide (ns= []):=by cases ns <;> rfl
theorem B_{n:Nat}{ns:List Int}:D.flat (n+1) (.lst (ns.map .int)):=fun d hd=>by
 obtain⟨i,_,rfl⟩:=a9.mp hd
 cases n <;> exact trivial
section
variable {P:aq}{w:World}{K:Frag}{mg:Str->Option Value}{base:Heap}{CX:f9}
theorem sG:bL ["floor","cell","crates","rows","left","crate","k","spot","wider"] ["floor","cell","crates"] (aF nz):=⟨rfl,rfl,rfl,by decide +kernel,rfl,by decide +kernel,by decide +kernel⟩
abbrev p8(P:aq)(w:World)(K:Frag)(mg:Str->Option Value)(base:Heap)(CX:f9):Prop:=
 lO P w K mg base CX 2 "_law_standing" (fun i:dM×Int×List Int=> [i.1.d, .int i.2.1, .lst (i.2.2.map .int)]) (fun i=>2<=i.1.st/\i.1.st<=4/\i.2.2.length<=100) (fun i=> .ok (.tup (bF true (fc i.1 i.2.1 i.2.2))))
theorem xP{f:Addr}{fd:aV}(nx:NX CX)(B:Bn mg)(G1:A4 P w K mg base CX)(F:jo K "_law_standing" "_law_standing" nz f fd)(hm:mg "_law_standing"=some (.ref f))(hb:Binds K fd ["floor","cell","crates"] []):p8 P w K mg base CX:=by
 refine fg F sG hm hb (fun i=>rfl) fun cdv A outer s H E i M0 hp hr=>⟨_,rfl, ?_⟩
 obtain⟨fl,cell0,crates⟩:=i
 obtain⟨hp1,hp2,hp3⟩:2<=fl.st/\fl.st<=4/\crates.length<=100:=hp
 have px:=sG.nd
 change WS _ M0 H (ba nz) [.im fl.d, .im (.int cell0), .im (.lst (crates.map .int)), .un, .un, .un, .un, .un, .un] {N:=fun _=>D.tup (bF true (fc fl cell0 crates))= .non,R:=fun d'=>d'= .tup (bF true (fc fl cell0 crates))}
 refine WS.cons (W1.comp (i:=3) (es:=bF false (gT fl.st.toNat [])) (cs:= []) (eE.closed (by decide +kernel) (by decide +kernel) rfl (by decide +kernel) rfl) rfl (by decide +kernel) (ky.range rfl B.range (av.ixT (nm 0 rfl rfl) av.int rfl) (by omega)) wg (by rw [g6,lx,jq]) (by rw [g6]; omega) ?_ px rfl rfl (gC rfl) ?_)
 ·intro C s₀ H₀ fp pins i d e h1 h2
  obtain⟨r,hr',rfl⟩:=iu h2
  have:r= []:=by
   rw [yX]at hr'
   split at hr'
   ·exact(aC hr').symm
   ·cases hr'
  subst this
  exact dP.toD (dP.lst aP.nil)
 refine WS.freeze (i:=3) rfl ?_
 refine WS.cons (W1.setF (i:=4) px rfl (.inl rfl) (gC rfl) (dP.listL rfl B.list (av.r (nm 2 rfl rfl))) ?_)
 refine WS.cons (W1.while (fun ρ=> ∃cell rows left a b c d,ρ= [.im fl.d, .im (.int cell), .im (.lst (crates.map .int)), .im (.lst (bF false rows)), .mu (left.map .int),a,b,c,d]/\(rows.length:Int)=fl.st/\rows.flatten.length+left.length<=100/\sH fl left.length cell rows left=fc fl cell0 crates)
  (Ik 4) cp ⟨cell0,gT fl.st.toNat [],crates,_,_,_,_,rfl,by rw [jq]; omega,by simpa using hp3,rfl⟩ ?_)
 rintro ρ ⟨cell,rows,left,a,b,c,d,rfl,hl,hsz,hrun⟩
 refine⟨_,cG.ne (Ge (sV hr)) (A0 4 rfl rfl) (av.r (dP.toD (dP.lst aP.nil))) B_ (fun _ h=>by cases h),fun h=> ?_,fun h=> ?_⟩
 ·rw [AD]at h
  have hne:left≠ []:=by simpa using h
  obtain⟨m,hm⟩: ∃m,left.length=m+1:=⟨left.length - 1,by have:=List.length_pos_iff.mpr hne; omega⟩
  rw [hm]at hrun
  refine WS.cons (W1.set (i:=1) px rfl (.inl rfl) (gC rfl) (av.mod (av.add (av.mul (nm 1 rfl rfl) av.int (.inr ⟨by decide,by decide⟩)) av.int) av.int (by decide)) ?_)
  generalize hc:(cell * 48271+17) % 2147483647=cell'
  have hi0:0<=cell' / 7 % (left.length:Int):=iD _ (by omega)
  have hi1:cell' / 7 % (left.length:Int) < left.length:=gq _ (by omega)
  generalize hix:(cell' / 7 % (left.length:Int)).toNat=ix
  have hlt:ix < left.length:=by omega
  refine WS.cons (W1.popAt (i:=4) (j:=5) (n:=ix) (d:= .int (left.getD ix 0)) px rfl (.inl rfl) rfl rfl (.inl rfl) (gC rfl) (by decide) (av.mod (av.fdiv (nm 1 rfl rfl) av.int ⟨by decide,by decide⟩) (av.lenL rfl B.len (A0 4 rfl rfl)) (by rw [ae]; omega)) (by rw [ae]; omega)
   (by rw [ax,ai hlt,aG,ai hlt]; rfl) (by omega) ?_ ⟨rfl,rfl,rfl,rfl⟩)
  have heras:(left.map D.int).eraseIdx ix=(left.eraseIdx ix).map D.int:=vf ..
  rw [heras]
  have hlen2:(left.eraseIdx ix).length+1=left.length:=by rw [List.length_eraseIdx_of_lt hlt]; omega
  refine WS.one (W1.for (ds:=kB 0 fl.st.toNat) (fun j ρ=> ∃x y z,ρ= [.im fl.d, .im (.int cell'), .im (.lst (crates.map .int)), .im (.lst (bF false (place fl cell' rows (left.getD ix 0) j).1)), .mu ((left.eraseIdx ix).map .int), .im (M7 (place fl cell' rows (left.getD ix 0) j).2),x,y,z]) cp rfl
   (ky.range rfl B.range (av.ixT (nm 0 rfl rfl) av.int rfl) (by omega)) ⟨_,_,_,rfl⟩ ?_ ?_)
  ·rintro j d ρ hd ⟨x,y,z,rfl⟩
   obtain⟨rfl,hj⟩:=jV hd
   obtain⟨pl1,pl2⟩:=place_len fl cell' rows (left.getD ix 0) j
   rw [ot]
   generalize place fl cell' rows (left.getD ix 0) j=st at pl1 pl2
   obtain⟨rw1,oc⟩:=st
   dsimp only at pl1 pl2 ⊢
   refine⟨_,A1.name (i:=6) px rfl (.inl rfl) (gC rfl), ?_⟩
   have s0:0<=(cell' / 61+(0+(j:Int))) % fl.st:=iD _ (by omega)
   have s1:(cell' / 61+(0+(j:Int))) % fl.st < fl.st:=gq _ (by omega)
   refine WS.cons (W1.set (i:=7) px rfl (.inl rfl) (gC rfl) (av.mod (av.add (av.fdiv (nm 1 rfl rfl) av.int ⟨by decide,by decide⟩) (nm 6 rfl rfl)) (av.ixT (nm 0 rfl rfl) av.int rfl) (by omega)) ?_)
   have z0:(0:Int)+(j:Int)=(j:Int):=by omega
   rw [z0]at s0 s1 ⊢
   cases oc with
   | none=>exact WS.one (W1.ite (cG.notN (av.r (nm 5 rfl rfl))) (fun h=>by cases h) fun h=>WS.nil ⟨_,_,_,rfl⟩)
   | some c=>
    refine WS.one (W1.ite (cG.notN (av.r (nm 5 rfl rfl))) (fun _=> ?_) fun h=>by cases h)
    have s2:((cell' / 61+(j:Int)) % fl.st).toNat < rw1.length:=by omega
    have s3:(cell' / 61+(j:Int)) % fl.st=(((cell' / 61+(j:Int)) % fl.st).toNat:Int):=by omega
    unfold gO
    dsimp only
    generalize ((cell' / 61+(j:Int)) % fl.st).toNat=sp at s2 s3
    have rl:=kl (rows:=rw1) (r:=rw1.getD sp []) (by rw [aG,ai s2]; exact aR s2)
    have fl2:rw1.flatten.length+1<=rows.flatten.length+1:=by simpa using pl2
    refine WS.cons (W1.setF (i:=8) px rfl (.inl rfl) (gC rfl) (dP.listL rfl B.list (av.r (nm 3 rfl rfl))) ?_)
    refine WS.cons (W1.setIx (i:=8) (n:=sp) rfl (.inl rfl) rfl (dP.toD (dP.cat (ds:=(rw1.getD sp []).map .int) (av.r (av.ixL (av.r (nm 3 rfl rfl)) (nm 7 rfl rfl) (by
      unfold bF
      rw [qZ,qa s3 s2,aG,ai s2]
      rfl))) (av.r (dP.toD (dP.lst (aP.cons (nm 5 rfl rfl) aP.nil)))) (by rw [ae,fb]; omega))) (nm 7 rfl rfl) s3 (by rw [lx]; exact s2) ?_)
    have hset:(bF false rw1).set sp (.lst ((rw1.getD sp []).map .int ++ [D.int c]))=bF false (rw1.set sp (rw1.getD sp [] ++ [c])):=by
     rw [Bg,bo]; rfl
    have hset':((bF false rw1).set sp (.lst ((rw1.getD sp []).map .int ++ [M7 (some c)])))=bF false (rw1.set sp (rw1.getD sp [] ++ [c])):=hset
    rw [hset']
    have fl3:=pk (rows:=rw1) (n:=sp) (r:=rw1.getD sp [] ++ [c]) (k:=1) (by rw [ao]; exact ay _)
    have q1:(rw1.set sp (rw1.getD sp [] ++ [c])).flatten.length < 4000:=by omega
    have q2:(rw1.set sp (rw1.getD sp [] ++ [c])).length < 4000:=by rw [bA]; omega
    refine WS.one (W1.ite (cG.val (av.callR G1 hr (aO nx) rfl (fl,false,rw1.set sp (rw1.getD sp [] ++ [c])) (ue.cons (av.r (nm 0 rfl rfl)) (ue.one (A0 8 rfl rfl))) ⟨q1,q2⟩ rfl trivial)) (fun hg=> ?_) fun hg=> ?_)
    ·refine WS.freeze (i:=8) rfl (WS.cons (W1.set (i:=3) px rfl (.inl rfl) (gC rfl) (nm 8 rfl rfl) ?_))
     refine WS.one (W1.set (i:=5) px rfl (.inl rfl) (gC rfl) av.non ?_)
     rw [if_pos hg]
     exact⟨_,_,_,rfl⟩
    ·refine WS.nil ?_
     have hg': ¬good fl (rw1.set sp (rw1.getD sp [] ++ [c]))=true:=by rw [show good fl (rw1.set sp (rw1.getD sp [] ++ [c]))=false from hg]; exact aA
     dsimp only
     rw [if_neg hg']
     exact⟨_,_,_,rfl⟩
  ·rintro ρ ⟨x,y,z,rfl⟩
   rw [g6]
   obtain⟨pl1,pl2⟩:=place_len fl cell' rows (left.getD ix 0) fl.st.toNat
   refine⟨⟨cell',(place fl cell' rows (left.getD ix 0) fl.st.toNat).1,left.eraseIdx ix,_,_,_,_,rfl,by rw [pl1]; exact hl,by omega, ?_⟩, ?_⟩
   ·rw [<-hrun]
    have:(left.eraseIdx ix).length=m:=by omega
    rw [this]
    show _=sH fl m ((cell * 48271+17) % 2147483647) (place fl ((cell * 48271+17) % 2147483647) rows (left.getD ((cell * 48271+17) % 2147483647 / 7 % left.length).toNat 0) fl.st.toNat).1 (left.eraseIdx ((cell * 48271+17) % 2147483647 / 7 % left.length).toNat)
    rw [hc,hix]
   ·show((left.eraseIdx ix).map D.int).length < (left.map D.int).length
    rw [ae,ae]
    omega
 ·rw [AD]at h
  have hnil:left= []:=by simpa using h
  subst hnil
  have e:rows=fc fl cell0 crates:=hrun
  subst e
  refine WS.one (W1.ret (av.tupleL rfl B.tuple (av.r (dP.toD (dP.comp (es:=bF true (fc fl cell0 crates)) (cs:= []) (eE.closed (by decide +kernel) (by decide +kernel) rfl (by decide +kernel) rfl) rfl (by decide +kernel) (ky.list (nm 3 rfl rfl)) wg (by rw [lx,lx]) (by rw [lx]; omega) ?_)))) rfl)
  intro C s₀ H₀ fp pins i d e h1 h2
  obtain⟨r,hr1,rfl⟩:=iu h1
  obtain⟨r2,hr2,rfl⟩:=iu h2
  rw [hr1]at hr2
  cases hr2
  exact av.tupleS (t:=false) rfl B.tuple (nm 0 rfl rfl)
end
end K
namespace Z
open PySem PySem.Spec PyProof.Rows L2
section
variable {X:Cx}{ρ:eT}{M0:MP}{H0:Hp}{P:pM}{e a b:Expr}{d:D}{ds:List D}{pos p:Pos}
theorem xR{K:Frag}{M:MP}{H:Hp}{bs:List Bool}{xs:List V}{its:List Value}(h:cA K M H (bs.map .bl) xs)(r:Vals xs its):its=bs.map fD:=by
 induction bs generalizing xs its with
 | nil=>cases (show xs= []from h); cases r; rfl
 | cons b bs ih=>
  obtain⟨v,t,rfl,h1,h2⟩:=h
  cases r with
  | cons r1 r2=>
   cases (show v= .bl b from h1)
   rw [bf,ih h2 r2,show _=fD b from r1]
theorem qu(bs:List Bool)(tr:Nat->Bool)(h: ∀i b,bs[i]? =some b->tr i=b):(bD bs.length).all tr=bs.all id/\(bD bs.length).any tr=bs.any id:=by
 have e:(bD bs.length).map tr=bs:=by
  apply fy
  intro i
  rw [ax]
  by_cases hi:i < bs.length
  ·rw [CG hi,ai hi]
   exact congrArg some (h i _ (ai hi))
  ·rw [bq (by rw [cg]; omega),bq (by omega)]
   rfl
 constructor
 ·rw [<-e,List.all_map,e]; rfl
 ·rw [<-e,List.any_map,e]; rfl
theorem qv{A:bh}(bs:List Bool):TruthOf X.prog X.w A (fun i v=>(bs.map fD)[i]? =some v) (fun i=>bs.getD i false):=fun i v s Q E h k=>by
 dsimp only at h k
 rw [ax]at h
 cases e:bs[i]? with
 | none=>rw [e]at h; cases h
 | some b=>
  rw [e]at h
  cases h
  rw [aG,e]at k
  exact ft k
theorem Bh(hc:X.calm=true):gK X (.builtin "all") (fun xs H Q=> ∃(q:Addr) (M:MP) (bs:List Bool),xs= [.ref q]/\pj X.K M H (.lst (bs.map .bl)) (.ref q)/\Q (.bl (bs.all id)) H):=by
 intro pins s σ H xs us Q I r ⟨q,M,bs,e,hq,k⟩
 subst e
 obtain⟨u,rfl,rx⟩:=vals1 r
 cases rx
 obtain⟨q',ys,eq,sq,dn⟩:=hq
 cases eq
 obtain⟨its,r',pl,hz⟩:=I.list sq
 have hb:=xR dn r'
 subst hb
 have hlt:q < s.heap.objs.size:=by obtain⟨o,n,e,_⟩:=pl; exact au e
 refine call_all_walk (qO pl.isList ?_)
 refine⟨_,_,_,_,_,_,fun i=>bs.getD i false,rfl,Walks.list (by simp [I.ok.hd hc]) s.heap.objs.size q (aE hlt) _,⟨⟨_,aw _ rfl,rfl,rfl⟩,pl.isList.push _⟩, ?_,fun h' tk hk=> ?_⟩
 ·have:=qv (X:=X) (A:=X.A.in1) bs
  intro i v s Q E h
  exact this i v s Q E (by rw [nZ]at h; exact h)
 ·refine⟨.bl (bs.all id),H,I.kept (t':=tk) (fun b o e=>hk b o (by intro z; rw [aJ.mp z]at e; exact absurd (au e) (dS _)) (ag _ e)), ?_,k⟩
  show _=fD _
  rw [az,ae,(qu bs _ fun i b h=>by rw [aG,h]; rfl).1]
theorem B4(hc:X.calm=true):gK X (.builtin "any") (fun xs H Q=> ∃(q:Addr) (M:MP) (bs:List Bool),xs= [.ref q]/\pj X.K M H (.lst (bs.map .bl)) (.ref q)/\Q (.bl (bs.any id)) H):=by
 intro pins s σ H xs us Q I r ⟨q,M,bs,e,hq,k⟩
 subst e
 obtain⟨u,rfl,rx⟩:=vals1 r
 cases rx
 obtain⟨q',ys,eq,sq,dn⟩:=hq
 cases eq
 obtain⟨its,r',pl,hz⟩:=I.list sq
 have hb:=xR dn r'
 subst hb
 have hlt:q < s.heap.objs.size:=by obtain⟨o,n,e,_⟩:=pl; exact au e
 refine call_any_walk (qO pl.isList ?_)
 refine⟨_,_,_,_,_,_,fun i=>bs.getD i false,rfl,Walks.list (by simp [I.ok.hd hc]) s.heap.objs.size q (aE hlt) _,⟨⟨_,aw _ rfl,rfl,rfl⟩,pl.isList.push _⟩, ?_,fun h' tk hk=> ?_⟩
 ·have:=qv (X:=X) (A:=X.A.in1) bs
  intro i v s Q E h
  exact this i v s Q E (by rw [nZ]at h; exact h)
 ·refine⟨.bl (bs.any id),H,I.kept (t':=tk) (fun b o e=>hk b o (by intro z; rw [aJ.mp z]at e; exact absurd (au e) (dS _)) (ag _ e)), ?_,k⟩
  show _=fD _
  rw [az,ae,(qu bs _ fun i b h=>by rw [aG,h]; rfl).2]
theorem av.all{bs:List Bool}(hc:X.calm=true)(hg:Gl X "all")(hm:X.mg "all"=none)(h:lZ X ρ e (.lst (bs.map .bl)))(he:ar [e] X.env= [(false,eval e X.env)]:=by rfl):av X ρ (.Call (.Name "all" p) [e] [] pos) (.bl (bs.all id)):=
 av.callB (Bh hc) hg hm (by decide +kernel) (ue.one h he) (fun M H vs Q dn k=>by
  obtain⟨v,r,rfl,e1,e2⟩:=dn
  cases e2
  obtain⟨q,xs,rfl,sq,z⟩:=id e1
  exact⟨q,M,bs,rfl,e1,k _ H (bJ.refl _) rfl⟩) (he:=he)
theorem av.any{bs:List Bool}(hc:X.calm=true)(hg:Gl X "any")(hm:X.mg "any"=none)(h:lZ X ρ e (.lst (bs.map .bl)))(he:ar [e] X.env= [(false,eval e X.env)]:=by rfl):av X ρ (.Call (.Name "any" p) [e] [] pos) (.bl (bs.any id)):=
 av.callB (B4 hc) hg hm (by decide +kernel) (ue.one h he) (fun M H vs Q dn k=>by
  obtain⟨v,r,rfl,e1,e2⟩:=dn
  cases e2
  obtain⟨q,xs,rfl,sq,z⟩:=id e1
  exact⟨q,M,bs,rfl,e1,k _ H (bJ.refl _) rfl⟩) (he:=he)
end
theorem EN(l b:Addr)(xs ys:Array Value)(n m:Nat)(dd de:Option Addr)(sl tl:Array (Option Value))(h0:xs.isEmpty=true):
  Meets (c6.«tuple.__add__» ⟨[.ref l, .ref b], []⟩) (fun _ R s=>s.heap.get? l=some {cls:= .type "tuple",dict:=dd,data:= .seq xs n,slots:=sl}/\s.heap.get? b=some {cls:= .type "tuple",dict:=de,data:= .seq ys m,slots:=tl}/\
   R (.ok (.ret (ak b))) {s with heap:=s.heap,toks:=s.toks}):=
 .of_wp fun prog w A R s h=>by
  obtain⟨hp,g,d,tk,os⟩:=s
  obtain⟨hl,hb,h⟩:=h
  have f2:=iw
  wp_walk using cj hl,cj hb
  exact⟨_,rfl,h⟩
theorem Hn{prog:aq}{w:World}{A:bh}{E:Value->ah->Prop}{s:ah}{t sl:Addr}{items:Array Value}{vl vu:Value}{lo hi:Option Int}{Q:Value->ah->Prop}(ht:IsTup s.heap t items)(hs:s.heap.IsSliceOf sl vl vu .none)(pl:qo vl lo)(pu:qo vu hi)
  (hw:HT.h_ items.size 0 lo=0/\HT.h_ items.size items.size hi=items.size)(h:Q (.ref t) s):wpAny (model prog w) A (vj (.ref t) (.ref sl)) Q E s:=by
 obtain⟨os,hos,hcs,hds⟩:=id hs
 have hTs:s.TypeIs (.ref sl) "slice":=⟨os,hos,hcs⟩
 unfold vj
 try with_reducible refine bG ?_
 first | refine aa (af ?_) | skip
 refine aa (wpAny_sequenceKey ht.typeIs (by decide) ?_)
 refine aa (cM (name:=hJ "__getitem__") ht.typeIs dJ
  (bI dJ ht.typeIs entry_tuple_getitem ?_ (args_tuple_getitem _ _)))
 show wpAny _ _ (wM (.ref t) >>=_) _ _ s
 refine aa (tupleItemsOf_ ht ?_)
 refine aa (fv hTs ?_)
 rw [if_pos (by decide)]
 refine aa (HT.lg hs pl pu ?_)
 have hyes:((((HT.h_ items.size 0 lo:Nat):Int)==0&&(1:Int)==1&&(HT.h_ items.size items.size hi - HT.h_ items.size 0 lo)==items.size)=true):=by
  rw [hw.1,hw.2]; simp
 show wpAny _ _ (if(((HT.h_ items.size 0 lo:Nat):Int)==0&&(1:Int)==1&&(HT.h_ items.size items.size hi - HT.h_ items.size 0 lo)==items.size)=true then _ else _) _ _ s
 rw [if_pos hyes]
 unfold Builtin.Tuple.tupleIsExact
 refine aa (aa (fv ht.typeIs (af ?_)))
 rw [if_pos (by decide)]
 exact aa (e7 (af ⟨_,rfl,af h⟩))
section
variable {X:Cx}{ρ:eT}{e a b:Expr}{d:D}{ds:List D}{pos p p2:Pos}
def Kx(K:Frag):V->Option Int->Option Int->Hp->VK->Prop:=fun x lo hi H Q=> ∃a xs,x= .ref a/\jR K H a xs/\
 (HT.h_ xs.length 0 lo=0/\HT.h_ xs.length xs.length hi=xs.length->Q (.ref a) H)/\(¬(HT.h_ xs.length 0 lo=0/\HT.h_ xs.length xs.length hi=xs.length)-> ∀p,H p=none->Q (.ref p) (upd H p (.tup (y9 xs lo hi))))
theorem GA:Mj X (Kx X.K):=by
 intro pins s σ H x v vl vu lo hi sl Q I rx hs pl pu h
 obtain⟨a,xs,rfl,hx,q1,q2⟩:=h
 by_cases hw:HT.h_ xs.length 0 lo=0/\HT.h_ xs.length xs.length hi=xs.length
 ·cases rx
  obtain⟨its,r,ht,hz⟩:=I.tuple hx
  have hlen:its.toArray.size=xs.length:=by rw [az]; exact r.length.symm
  refine⟨"tuple",_,dJ.lookup,ht.typeIs, ?_⟩
  exact Hn ht hs pl pu (by rw [hlen]; exact hw) ⟨.ref a,H,I,rfl,q1 hw⟩
 ·exact Jk pins s σ H (.ref a) v vl vu lo hi sl Q I rx hs pl pu ⟨a,xs,rfl,hx,hw,q2 hw⟩
def cutD(ds:List D)(lo hi:Option Int):List D:=(ds.drop (HT.h_ ds.length 0 lo)).take (HT.h_ ds.length ds.length hi - HT.h_ ds.length 0 lo)
theorem cA.cut{K:Frag}{M:MP}{H:Hp}{xs:List V}{lo hi:Option Int}(h:cA K M H ds xs):cA K M H (cutD ds lo hi) (y9 xs lo hi):=by
 unfold cutD y9
 rw [h.len]
 exact(h.drop _).take _
theorem Es{lo hi:Option Int}(h:HT.h_ ds.length 0 lo=0/\HT.h_ ds.length ds.length hi=ds.length):cutD ds lo hi=ds:=by
 unfold cutD
 rw [h.1,h.2,kU,Ab,dh]
def yU(X:Cx)(ρ:eT)(e:Option Expr)(o:Option Int):Prop:=match e,o with
 | none,o=>o=none
 | some e,o=> ∃i,o=some i/\av X ρ e (.int i)
theorem yU.none:yU X ρ none none:=rfl
theorem yU.some{i:Int}(h:av X ρ e (.int i)):yU X ρ (some e) (some i):=⟨i,rfl,h⟩
theorem yU.run{eo:Option Expr}{o:Option Int}(h:yU X ρ eo o): ∃t,PO X eo t/\ ∀(M0:MP) (H0:Hp) (γ:List (D×V)) (α:Nat->Addr) (σ:St) (H:Hp) (Q:Option Int->Hp->Prop),Rep X.K M0 H0 γ α ρ σ H->(∀H',bJ H H'->Q o H')->t σ H Q:=by
 cases eo with
 | none=>
  cases (show o=Option.none from h)
  exact⟨_,Hw,fun M0 H0 γ α σ H Q R k=>k H (bJ.refl _)⟩
 | some e=>
  obtain⟨i,rfl,h⟩:=h
  exact⟨_,Hm g7,fun M0 H0 γ α σ H Q R k=>h M0 H0 γ α σ H _ R fun v H1 s1 d1=>⟨i,d1,k H1 s1⟩⟩
theorem av.cutT{lo hi:Option Expr}{l u:Option Int}(ha:av X ρ a (.tup ds))(hl:yU X ρ lo l)(hh:yU X ρ hi u):av X ρ (.Subscript a (.Slice lo hi none p2) pos) (.tup (cutD ds l u)):=by
 obtain⟨tl,l1,l2⟩:=hl.run
 obtain⟨th,h1,h2⟩:=hh.run
 intro M0 H0 γ α σ H Q R k
 refine(E5 GA g7 l1 h1).to (ha M0 H0 γ α σ H _ R fun v H1 s1 d1=>l2 M0 H0 γ α σ H1 _ (R.next s1) fun H2 s2=>h2 M0 H0 γ α σ H2 _ ((R.next s1).next s2) fun H3 s3=> ?_)
 obtain⟨q,xs,rfl,sq,dn⟩:=d1.same (s2.trans s3)
 refine⟨q,xs,rfl,sq,fun hw=> ?_,fun hw l hl=> ?_⟩
 ·rw [dn.len]at hw
  exact k _ H3 ((s1.trans s2).trans s3) ⟨q,xs,rfl,sq,by rw [Es hw]; exact dn⟩
 ·exact k _ _ (((s1.trans s2).trans s3).trans (bt hl)) ⟨l,_,rfl,jR.of bC,dn.cut.same (bt hl)⟩
def IZ(K:Frag):R2:=fun x y H Q=> ∃a b xs ys,x= .ref a/\y= .ref b/\jR K H a xs/\jR K H b ys/\xs.length+ys.length<=sizeLine/\(xs= []->Q (.ref b) H)/\(xs≠ []->ys= []->Q (.ref a) H)/\(xs≠ []->ys≠ []-> ∀p,H p=none->Q (.ref p) (upd H p (.tup (xs ++ ys))))
theorem E6:nX X (jG .Add) (IZ X.K):=by
 intro pins s σ H x y v u Q I rx ry h
 obtain⟨a,b,xs,ys,rfl,rfl,ha,hb,hz,q0,q1,q2⟩:=h
 by_cases hx:xs= []
 ·cases rx
  cases ry
  obtain⟨its,r1,⟨⟨cls,dd,data,sl⟩,ho,hc,n,hd⟩,_⟩:=I.tuple ha
  obtain⟨its2,r2,⟨⟨cls2,dd2,data2,sl2⟩,ho2,hc2,n2,hd2⟩,_⟩:=I.tuple hb
  simp only at hc hd hc2 hd2
  subst hc hd hc2 hd2
  have e:its= []:=r1.nil_iff.mpr hx
  exact z7 ⟨_,ho,rfl⟩ ⟨_,ho2,rfl⟩ Ib seq_tuple_add z8 yY (yK _ _)
   (EN a b its.toArray its2.toArray n n2 dd dd2 sl sl2 (by simp [e])) ⟨ho,ho2,⟨.ref b,H,I,rfl,q0 hx⟩⟩
 ·exact G_ pins s σ H (.ref a) (.ref b) v u Q I rx ry ⟨a,b,xs,ys,rfl,rfl,ha,hb,hx,hz,q1 hx,q2 hx⟩
theorem cA.nil_iff{K:Frag}{M:MP}{H:Hp}{xs:List V}(h:cA K M H ds xs):xs= []->ds= []:=fun e=>by
 have:=h.len
 rw [e]at this
 exact yZ.mp this.symm
theorem av.catT{fs:List D}(ha:av X ρ a (.tup ds))(hb:av X ρ b (.tup fs))(hl:ds.length+fs.length<=1000000):av X ρ (.BinOp a .Add b pos) (.tup (ds ++ fs)):=fun M0 H0 γ α σ H Q R k=>
 (DP E6 g7 g7).to (ha M0 H0 γ α σ H _ R fun v H1 s1 d1=>hb M0 H0 γ α σ H1 _ (R.next s1) fun u H2 s2 d2=>by
  obtain⟨q,xs,rfl,sq,dn⟩:=d1.same s2
  obtain⟨q2,xs2,rfl,sq2,dn2⟩:=d2
  refine⟨q,q2,xs,xs2,rfl,rfl,sq,sq2,by rw [dn.len,dn2.len]; exact jE hl,fun e=> ?_,fun _ e=> ?_,fun _ _ l hl'=> ?_⟩
  ·exact k _ H2 (s1.trans s2) ⟨q2,xs2,rfl,sq2,by rw [dn.nil_iff e]; exact dn2⟩
  ·exact k _ H2 (s1.trans s2) ⟨q,xs,rfl,sq,by rw [dn2.nil_iff e,aZ]; exact dn⟩
  ·exact k _ _ ((s1.trans s2).trans (bt hl')) ⟨l,_,rfl,jR.of bC,(cA.app dn dn2).same (bt hl')⟩)
end
end Z
namespace Tx
def K4{α:Type} [DecidableEq α](s:List α)(a:α):List α:=if a∈s then s else s ++ [a]
def uniq{α:Type} [DecidableEq α](l:List α):List α:=l.foldl K4 []
end Tx
namespace Z
open PySem PySem.Spec PyProof.Rows L2
theorem EA: ∀{xs:List V} {us:List Value},xs.length=us.length->(∀(i:Nat) (x:V) (u:Value),xs[i]? =some x->us[i]? =some u->RelV x u)->Vals xs us
 | [], [],_,_=> .nil
 | [],_::_,h,_=>by simp at h
 | _::_, [],h,_=>by simp at h
 | x::xs,u::us,h,k=> .cons (k 0 x u rfl rfl) (EA (by simpa using h) fun i y v h1 h2=>k (i+1) y v (by simpa using h1) (by simpa using h2))
end Z
namespace Z
open PySem PySem.Spec PyProof.Rows L2
theorem HZ{i:Int}:vb "int" (.int i)=true:=by simp [vb,IG]
theorem Ee{i:Int}:vb "bool" (.int i)=false:=by simp [vb,IG]
theorem o9{ds:List D}:vb "tuple" (.tup ds)=true:=by simp [vb,IG]
theorem DB{d:D}(h:D.flat 60 d):D.eqv d d=true:=by
 unfold D.eqv
 exact PySem.SeqAt.eqv_refl _ (lh 60 d h).1
section
variable {X:Cx}{ρ:eT}{e:Expr}{pos p p2 p3:Pos}
theorem xy:gK X (.type "range") (fun xs H Q=> ∃j:Int,xs= [.int j]/\ ∀l,H l=none->Q (.ref l) (upd H l (.rng 0 j))):=by
 intro pins s σ H xs us Q I r ⟨j,e,k⟩
 subst e
 obtain⟨u,rfl,t,rfl⟩:=vals1 r
 exact call_range_1 ⟨.ref s.heap.objs.size,_,I.laid (fun b o e=>ag _ e) (ay _) (o:= .rng 0 j) ⟨_,_,_,aw _ rfl⟩,rfl,k _ I.fresh⟩
theorem vL(hc:X.calm=true):gK X (.type "list") (fun xs H Q=> ∃(q:Addr) (hi:Int),xs= [.ref q]/\H q=some (.rng 0 hi)/\0<=hi/\hi<=100000/\
  ∀l,H l=none->Q (.ref l) (upd H l (.lst ((bD hi.toNat).map fun(i:Nat)=>V.int (0+(i:Int)))))):=by
 intro pins s σ H xs us Q I r ⟨q,hi,e,hq,h0,h1,k⟩
 subst e
 obtain⟨u,rfl,rx⟩:=vals1 r
 cases rx
 obtain⟨t,u',v',e⟩:=I.dO q _ hq
 refine call_list_range (a:=0) (b:=hi) (c:=1) (n:=hi.toNat) (I.ok.hd hc) (show IsRange s.heap q 0 hi 1 t u' v' from e) (small_one (by omega) (by omega) (by omega) (by omega)) (by rw [rangeSize_one]; split <;> omega) (by omega) fun h' tk acc c' hk hS hacc=> ?_
 refine⟨.ref s.heap.objs.size,_,I.laid (t':=tk) hk (ay _) (o:= .lst ((bD hi.toNat).map fun(i:Nat)=>V.int (0+(i:Int)))) ⟨?_,acc.toList,c',EA ?_ fun i x u hx hu=> ?_,by simpa using hS⟩,rfl,k _ I.fresh⟩
 ·rw [ae,cg]
  exact jE (by omega)
 ·rw [ae,cg,aj,hacc.1]
 ·rw [ax]at hx
  have hu':acc[i]? =some u:=by simpa using hu
  obtain⟨tk,rfl⟩:=hacc.2 i u hu'
  cases er:(bD hi.toNat)[i]? with
  | none=>rw [er]at hx; cases hx
  | some j=>
   rw [er]at hx
   obtain⟨_,h2⟩:=aD.mp er
   rw [FW]at h2
   subst h2
   cases hx
   exact⟨tk,by rw [Int.mul_one]⟩
theorem cA.rng{K:Frag}{M:MP}{H:Hp}(n:Nat):cA K M H (kB 0 n) ((bD n).map fun(i:Nat)=>V.int (0+(i:Int))):=by
 unfold kB
 generalize bD n=l
 induction l with
 | nil=>rfl
 | cons a l ih=>exact⟨_,_,rfl,rfl,ih⟩
theorem dP.listRng{j:Int}(hc:X.calm=true)(hg:Gl X "list")(hm:X.mg "list"=none)(hg2:Gl X "range")(hm2:X.mg "range"=none)(h:av X ρ e (.int j))(h0:0<=j)(h1:j<=100000)
  (he:ar [e] X.env= [(false,eval e X.env)]:=by rfl)(he2:ar [.Call (.Name "range" p2) [e] [] p3] X.env= [(false,eval (.Call (.Name "range" p2) [e] [] p3) X.env)]:=by rfl):dP X ρ (.Call (.Name "list" p) [.Call (.Name "range" p2) [e] [] p3] [] pos) (kB 0 j.toNat):=fun M0 H0 γ α σ H Q R k=>
 (jP (vL hc) hg hm (by decide +kernel) (dG (jP xy hg2 hm2 (by decide +kernel) (dG g7 gG he) (by decide) (by decide) he) gG he2) (by decide) (by decide) he2).to (h M0 H0 γ α σ H _ R fun v H1 s1 d1=>by
  cases (show v= .int j from d1)
  exact⟨j,rfl,fun l hl'=>⟨l,j,rfl,bC,h0,h1,fun l2 hl2=>k l2 _ _ _ (s1.trans (bt hl')) hl2 (bt hl2) bC (cA.rng _)⟩⟩)
end
end Z
namespace Z
open PySem PySem.Spec PyProof.Rows L2
section
variable {P:aq}{w:World}{K:Frag}{mg:Str->Option Value}{base:Heap}{CX:f9}{k:Nat}{x qual:Str}{st:Stmt}{f:Addr}{fd:aV}{N ps:List Str}{ι:Type}{args:ι->List D}{pre:ι->Prop}{res:ι->Except Addr D}
theorem AG(F:jo K x qual st f fd)(S:bL N ps (aF st))(hl: ∀i,(args i).length=ps.length)
  (body: ∀(cdv:Value) (A:bh) (outer:List Env) (s:ah) (H:Hp) (E:XK) (i:ι) (M0:MP),pre i->fq k (A.deeper (j8 qual (aF st) s.heap.objs.size f cdv))->
   ∃d,res i= .ok d/\WS (kz CX P w K mg base N qual (aF st) f cdv A outer s H E).nox M0 H (ba st) (qI N (args i)) {N:=fun _=>d= .non,R:=fun d'=>d'=d}):mw P w K mg base CX (k+1) f fd ps (lQ K args pre res):=by
 obtain⟨oc,od,kV,doc,pm,an,cdv,ct,osl,rfl,lk,hcd⟩:=F.ex
 refine xY lk hcd S (fun vs H Q E ⟨i,M0,_,h,_⟩=>by rw [h.len,hl]) fun A outer s H vs Q E hr hsp=> ?_
 obtain⟨i,M0,hM,h,hp,k1,k2⟩:=hsp
 obtain⟨d,hd,ws⟩:=body cdv A outer s H E i M0 hp hr
 refine⟨nj _ (ba st),(fK (X:=(kz CX P w K mg base N qual (aF st) f cdv A outer s H E).nox)).nox, ?_⟩
 refine nj.mono (En:=ends K M0 H [] {N:=fun _=>d= .non,R:=fun d'=>d'=d}) (fun σ' H' ⟨α,ρ,R,e⟩=> ?_) (fun v H' ⟨d',e,sm,dn⟩=> ?_) (fun _ _ ⟨_,_,_,z⟩=>z.elim) (fun _ _ ⟨_,_,_,z⟩=>z.elim) (ws [] (fun _=>0) _ H (rep0 hM h))
 ·exact k1 d hd .non H' R.same (by rw [e]; exact rfl)
 ·subst e
  exact k1 _ hd v H' sm dn
end
abbrev AL(K:Frag):Sp:=lQ K (fun ns:List Int=> [D.lst (ns.map .int)]) (fun ns=>ns.length<=63) (fun _=> .ok (.bl true))
end Z
namespace Z
open PySem PySem.Spec PyProof.Rows
def fh(t:cH):Nat->cW->cW
 | 0,p=>p
 | k+1,p=>fh t k (t.advance p)
theorem lb(t:cH): ∀(k l:Nat) (p:cW),fh t (k+l) p=fh t l (fh t k p)
 | 0,l,p=>by rw [Aa]; rfl
 | k+1,l,p=>by rw [Nat.succ_add]; exact lb t k l (t.advance p)
theorem JL{t:cH}(hm:t.mask=7){p:cW}(h0:p.more=0):t.advance p={p with j:=(p.i * 5+1+p.perturb / 32) % 8,more:=0,i:=(p.i * 5+1+p.perturb / 32) % 8,perturb:=p.perturb / 32}:=by
 unfold SetTable.advance
 rw [h0,if_neg (by decide),hm]
 unfold SetTable.leap IS
 dsimp only
 have: ¬((p.i * 5+1+p.perturb / 32) % (7+1)+9<=7):=by omega
 rw [if_neg this]
 simp
structure ou(p:cW):Prop where
 more:p.more=0
 ij:p.i=p.j
 lt:p.j < 8
 dm:p.dummy=none
theorem ou.adv{t:cH}(hm:t.mask=7){p:cW}(h:ou p):ou (t.advance p):=by
 rw [JL hm h.more]
 exact⟨rfl,rfl,Nat.mod_lt _ (by decide),h.dm⟩
theorem ou.fh{t:cH}(hm:t.mask=7): ∀{k:Nat} {p:cW},ou p->ou (Z.fh t k p)
 | 0,_,h=>h
 | k+1,_,h=>ou.fh hm (k:=k) (h.adv hm)
theorem xk{t:cH}(hm:t.mask=7): ∀(k:Nat) (p:cW),ou p->(fh t k p).perturb=p.perturb / 32 ^ k
 | 0,p,_=>by show p.perturb=p.perturb / 1; rw [Nat.div_one]
 | k+1,p,h=>by
  show(fh t k (t.advance p)).perturb=_
  rw [xk hm k _ (h.adv hm),JL hm h.more]
  show p.perturb / 32 / 32 ^ k=_
  rw [Nat.div_div_eq_div_mul,Nat.pow_succ,Nat.mul_comm]
def M5(j:Nat):Nat:=(j * 5+1) % 8
def B9:Nat->Nat->Nat
 | 0,j=>j
 | k+1,j=>B9 k (M5 j)
theorem AI{t:cH}(hm:t.mask=7): ∀(k:Nat) (p:cW),ou p->p.perturb=0->(fh t k p).j=B9 k p.j
 | 0,p,_,_=>rfl
 | k+1,p,h,hp=>by
  show(fh t k (t.advance p)).j=B9 k (M5 p.j)
  have e:=JL hm h.more
  rw [AI hm k _ (h.adv hm) (by rw [e]; show p.perturb / 32=0; rw [hp]),e]
  show B9 k ((p.i * 5+1+p.perturb / 32) % 8)=_
  rw [hp,h.ij]
  rfl
theorem Gr: ∀j:Fin 8, ∀r:Fin 8, ∃k:Fin 8,B9 k.1 j.1=r.1:=by decide
theorem yh: ∀(n:Nat) (l:List Nat),(∀r,r < n->r∈l)->n<=l.length
 | 0,_,_=>bQ _
 | n+1,l,h=>by
  have hn:=h n (fU n)
  have h1:=yh n (l.erase n) fun r hr=>(List.mem_erase_of_ne (aE hr)).mpr (h r (cv hr))
  have h2:=List.length_erase_of_mem hn
  have h3:=List.length_pos_of_mem hn
  omega
theorem uY{t:cH}(hd:t.dummies= #[]){r:Nat}(h:r∉t.place.toList):t.slot r= .empty:=by
 unfold yN
 dsimp only
 have h1:(t.place[cO t.place r]? ==some r)=false:=by
  rw [beq_eq_false_iff_ne]
  intro e
  exact h (by simpa using A9 e)
 rw [h1,hd]
 rfl
theorem zt{t:cH}(hd:t.dummies= #[])(r:Nat):t.slot r= .empty\/ ∃i,t.slot r= .live i/\t.place[i]? =some r:=by
 unfold yN
 dsimp only
 by_cases h1:(t.place[cO t.place r]? ==some r)=true
 ·rw [if_pos h1]
  exact .inr ⟨_,rfl,o7 h1⟩
 ·rw [if_neg h1,hd]
  exact .inl rfl
theorem reach{t:cH}(hm:t.mask=7)(hd:t.dummies= #[])(hs:t.place.size < 8){p:cW}(hp:ou p)(hb:p.perturb < 2 ^ 64): ∃K,K<=20/\t.slot (fh t K p).j= .empty:=by
 have: ∃r,r < 8/\r∉t.place.toList:=by
  apply w8
  intro hn
  have:=yh 8 t.place.toList fun r hr=>w8 fun z=>hn ⟨r,hr,z⟩
  simp at this
  omega
 obtain⟨r,hr,hnr⟩:=this
 have hq:=ou.fh hm (k:=13) hp
 have he: ∀k,fh t (13+k) p=fh t k (fh t 13 p):=fun k=>lb t 13 k p
 have hz:(fh t 13 p).perturb=0:=by
  rw [xk hm 13 p hp]
  exact Nat.div_eq_of_lt (aX hb (by decide +kernel))
 generalize fh t 13 p=q at hq hz he
 obtain⟨⟨k,hk8⟩,hk⟩:=Gr ⟨q.j,hq.lt⟩ ⟨r,hr⟩
 have hk':B9 k q.j=r:=hk
 refine⟨13+k,by omega, ?_⟩
 rw [he,AI hm k _ hq hz,hk']
 exact uY hd hnr
theorem C7{t:cH}(hm:t.mask=7)(h:Int):ou (t.probeStart h)/\(t.probeStart h).perturb < 2 ^ 64:=by
 unfold SetTable.probeStart
 dsimp only
 rw [hm]
 have: ¬(SetTable.bits h % (7+1)+9<=7):=by omega
 refine⟨⟨?_,rfl,Nat.mod_lt _ (by decide),rfl⟩, ?_⟩
 ·show IS 7 _ - _=0
  unfold IS
  rw [if_neg this]
  omega
 ·show SetTable.bits h < 2 ^ 64
  unfold SetTable.bits
  have h1:=gq h (show(0:Int) < 2 ^ 64 by decide)
  have h2:=iD h (show(2 ^ 64:Int)≠0 by decide)
  omega
theorem EK{t:cH}(hm:t.mask=7)(hd:t.dummies= #[]){hashAt:Nat->Int}{h:Int}: ∀(K:Nat) (p:cW) (fuel:Nat),ou p->t.slot (fh t K p).j= .empty->K < fuel->
  (∃j m,fz t hashAt h fuel p=some (.empty j none)/\t.slot j= .empty/\j < 8/\j=(fh t m p).j/\ ∀m',m' < m-> ∃i,t.slot (fh t m' p).j= .live i/\hashAt i≠h)\/
  ∃j i next K' m,fz t hashAt h fuel p=some (.candidate j i next)/\t.slot j= .live i/\t.place[i]? =some j/\K' < K/\t.slot (fh t K' next).j= .empty/\ou next/\j=(fh t m p).j/\next=fh t (m+1) p/\ ∀m',m' < m-> ∃i,t.slot (fh t m' p).j= .live i/\hashAt i≠h
 | K,p,0,_,_,hf=>by omega
 | 0,p,fuel+1,hp,he,_=>by
  refine .inl ⟨p.j,0, ?_,he,hp.lt,rfl,fun m' h=>absurd h (nR _)⟩
  show(match t.slot p.j with | .empty=>some (qp p.j p.dummy) | .dummy=>_ | .live i=>_)=_
  rw [show t.slot p.j= .empty from he,hp.dm]
 | K+1,p,fuel+1,hp,he,hf=>by
  rcases zt hd p.j with hs | ⟨i,hs,hi⟩
  ·refine .inl ⟨p.j,0, ?_,hs,hp.lt,rfl,fun m' h=>absurd h (nR _)⟩
   show(match t.slot p.j with | .empty=>some (qp p.j p.dummy) | .dummy=>_ | .live i=>_)=_
   rw [hs,hp.dm]
  ·by_cases hh:hashAt i=h
   ·refine .inr ⟨p.j,i,t.advance p,K,0, ?_,hs,hi,fU _,he,hp.adv hm,rfl,rfl,fun m' h=>absurd h (nR _)⟩
    show(match t.slot p.j with | .empty=>some (qp p.j p.dummy) | .dummy=>fz t hashAt h fuel (t.advance {p with dummy:=some p.j}) | .live i=>if hashAt i==h then some (SetTable.Met.candidate p.j i (t.advance p))else fz t hashAt h fuel (t.advance p))=_
    rw [hs]
    dsimp only
    rw [if_pos (by rw [hh]; exact beq_self_eq_true h)]
   ·have e:fz t hashAt h (fuel+1) p=fz t hashAt h fuel (t.advance p):=by
     show(match t.slot p.j with | .empty=>some (qp p.j p.dummy) | .dummy=>fz t hashAt h fuel (t.advance {p with dummy:=some p.j}) | .live i=>if hashAt i==h then some (SetTable.Met.candidate p.j i (t.advance p))else fz t hashAt h fuel (t.advance p))=_
     rw [hs]
     dsimp only
     rw [if_neg (by simpa using hh)]
    rw [e]
    have one: ∀m,(∀m',m' < m-> ∃i,t.slot (fh t m' (t.advance p)).j= .live i/\hashAt i≠h)-> ∀m',m' < m+1-> ∃i,t.slot (fh t m' p).j= .live i/\hashAt i≠h:=fun m hv m' hm'=>by
     cases m' with
     | zero=>exact⟨i,hs,hh⟩
     | succ m'=>exact hv m' (by omega)
    rcases EK hm hd K (t.advance p) fuel (hp.adv hm) he (by omega)with⟨j,m,h1,h2,h3,h4,h5⟩ | ⟨j,i',next,K',m,h1,h2,h3,h4,h5,h6,h7,h8,h9⟩
    ·exact .inl ⟨j,m+1,h1,h2,h3,h4,one m h5⟩
    ·exact .inr ⟨j,i',next,K',m+1,h1,h2,h3,cv h4,h5,h6,h7,h8,one m h9⟩
def zp:List Nat->List (List Nat)
 | []=> [[]]
 | a::l=>(zp l).map (a:: ·) ++ zp l
def subs:List (List Nat):=(zp [0,1,2,3,4,5,6,7]).filter fun l=>l.length<=4
theorem EB: []∈subs:=by decide +kernel
theorem Fj:(subs.all fun l=>l.length==4 || [0,1,2,3,4,5,6,7].all fun j=>(l.toArray[cO l.toArray j]? ==some j) || subs.contains (bS l.toArray (cO l.toArray j) j).toList)=true:=by decide +kernel
theorem BC:(subs.all fun l=>(bD (l.length+1)).all fun i=>cO l.toArray (if i==0 then 0 else l.getD (i - 1) 0+1)==i)=true:=by decide +kernel
theorem GC:(subs.all fun l=>(bD l.length).all fun i=>cO l.toArray (l.getD i 0)==i)=true:=by decide +kernel
theorem Gu:(subs.all fun l=> [0,1,2,3,4,5,6,7].all fun j=>decide (cO l.toArray j<=l.length))=true:=by decide +kernel
theorem EI{pl:Array Nat}(h:pl.toList∈subs){j:Nat}(hj:j < 8):cO pl j<=pl.size:=by
 have h1:=di.mp Gu _ h
 have hm:j∈ [0,1,2,3,4,5,6,7]:=by simp only [aK,dj,or_false]; omega
 have h2:=of_decide_eq_true (di.mp h1 j hm)
 rw [aj]at h2
 exact h2
theorem slot_of{t:cH}(hp:t.place.toList∈subs){i r:Nat}(h:t.place[i]? =some r):t.slot r= .live i:=by
 have hi:i < t.place.size:=(bU.mp h).1
 have h1:=di.mp GC _ hp
 have h2:=o7 (di.mp h1 i (gS.mpr (by rw [aj]; exact hi)))
 have e:t.place.toList.getD i 0=r:=by rw [aG,bp,h]; rfl
 rw [e]at h2
 have h3:cO t.place r=i:=h2
 unfold yN
 dsimp only
 rw [h3,h,if_pos (beq_self_eq_true _)]
theorem slot_mem{t:cH}(hd:t.dummies= #[])(hp:t.place.toList∈subs){r:Nat}:t.slot r≠ .empty↔r∈t.place.toList:=by
 constructor
 ·intro h
  exact w8 fun z=>h (uY hd z)
 ·intro h e
  obtain⟨i,hi,e1⟩:=fH h
  have:=slot_of hp (i:=i) (r:=r) (by rw [<-bp,ai hi,e1])
  rw [this]at e
  cases e
theorem Hf{pl:Array Nat}(h:pl.toList∈subs)(h4:pl.size < 4){j:Nat}(hj:j < 8)(he: ¬pl[cO pl j]? =some j):(bS pl (cO pl j) j).toList∈subs:=by
 have h1:=di.mp Fj _ h
 rw [uE]at h1
 rcases h1 with h1 | h1
 ·have:pl.toList.length=4:=o7 h1
  rw [aj]at this
  omega
 ·have hm:j∈ [0,1,2,3,4,5,6,7]:=by simp only [aK,dj,or_false]; omega
  have h2:=di.mp h1 j hm
  rw [uE]at h2
  rcases h2 with h2 | h2
  ·exact absurd (o7 h2) he
  ·exact List.contains_iff_mem.mp h2
theorem Dm{pl:Array Nat}(h:pl.toList∈subs){i:Nat}(hi:i<=pl.size):cO pl (if i=0 then 0 else pl.getD (i - 1) 0+1)=i:=by
 have h1:=di.mp BC _ h
 have h2:=di.mp h1 i (gS.mpr (by rw [aj]; omega))
 have h3:=o7 h2
 have e:pl.toList.getD (i - 1) 0=pl.getD (i - 1) 0:=by simp [aG,vk]
 rw [e]at h3
 by_cases h0:i=0
 ·subst h0; exact h3
 ·rw [if_neg h0]
  rw [if_neg (by simpa using h0)]at h3
  exact h3
section
variable {prog:aq}{w:World}
abbrev TK(prog:aq)(w:World)(h:Heap)(ks:List Int)(b:Addr):Prop:=IsTupleKey (fG prog w) h ks b
abbrev lH(prog:aq)(w:World)(ks:List Int):Int:=tupleKeyHash (fG prog w) ks
structure PS(prog:aq)(w:World)(led:Bool)(h:Heap)(a:Addr)(o:Obj)(es:Array (Int×Value))(ep:Nat)(t:cH):Prop where
 get:h.get? a=some o
 ex:o.ExactSet
 dat:o.data= .set es ep t
 mask:t.mask=7
 Gy:t.dummies= #[]
 size:t.place.size=es.size
 plain:t.plain=true
 led:t.led=led
 lu:es.size<=4
 pl:t.place.toList∈subs
 el: ∀e∈es.toList, ∃ks b,e=(lH prog w ks,ak b)/\TK prog w h ks b
 on: ∀(i:Nat) (e:Int×Value),es[i]? =some e-> ∃K,t.place[i]? =some (fh t K (t.probeStart e.1)).j/\ ∀K',K' < K->t.slot (fh t K' (t.probeStart e.1)).j≠ .empty
 nd: ∃kk:List (List Int),kk.length=es.size/\kk.Nodup/\ ∀(i:Nat) (k:List Int),kk[i]? =some k-> ∃b,es[i]? =some (lH prog w k,ak b)/\TK prog w h k b
variable {led:Bool}{a:Addr}{o:Obj}{es:Array (Int×Value)}{ep:Nat}{t:cH}{A:bh}{E:Value->ah->Prop}{s:ah}
theorem PS.fits(S:PS prog w led s.heap a o es ep t):t.fits es.size=true:=by
 unfold SetTable.fits SetTable.fill
 rw [S.size,S.Gy,S.mask]
 have:=S.lu
 simp
 omega
theorem PS.state{Q:(Array (Int×Value)×Nat×cH)->ah->Prop}(S:PS prog w led s.heap a o es ep t)(h:Q (es,ep,t) s):wpAny (model prog w) A (setState a) Q E s:=
 wpAny_setState_of S.get S.dat S.fits h
theorem vN{ks:List Int}{vs:List Value}(h:kW (fG prog w) ks vs): ∀v∈vs, ∃i tk,v=gD i tk:=by
 induction h with
 | nil=>intro v hv; cases hv
 | cons h1 _ ih=>
  intro v hv
  rcases aK.mp hv with rfl | hv
  ·obtain⟨t,rfl⟩:=lI h1
   exact⟨_,t,rfl⟩
  ·exact ih v hv
theorem yo{ks:List Int}{b:Addr}{Q:Bool->ah->Prop}{n:Nat}(hk:TK prog w s.heap ks b)(h:Q false s):wpAny (model prog w) A (qU (n+1) (.ref b)) Q E s:=by
 obtain⟨ob,items,m,ho,hc,hd,hi⟩:=id hk
 unfold qU
 refine aa (fv hk.typeIs ?_)
 dsimp only
 rw [if_pos (by decide)]
 refine aa (af ?_)
 simp only [eP,a_,if_false]
 refine aa (dA ho hd ?_)
 dsimp only
 have loop: ∀(l:List Value),(∀v∈l, ∃i tk,v=gD i tk)->wpAny (model prog w) A (forIn l ((none,()):Option Bool×Unit) fun y __s=>do
      let __do_lift<-qU n y
      if __do_lift=true then pure (ForInStep.done (some true,()))else pure (iE (none,()))) (fun r s'=>r=(none,())/\s'=s) E s:=by
  intro l
  induction l with
  | nil=>intro _; rw [fV]; exact af ⟨rfl,rfl⟩
  | cons v l ih=>
   intro hv
   rw [cP]
   obtain⟨i,tk,rfl⟩:=hv v (.head _)
   have e:qU n (.int i tk)=pure false:=by cases n <;> rfl
   rw [e]
   exact aa (af (ih fun x hx=>hv x (.tail _ hx)))
 rw [<-gr]
 refine aa (bN (loop items.toList (vN hi)) (fun r s' hr=> ?_) fun _ _ x=>x)
 obtain⟨rfl,rfl⟩:=hr
 exact af h
theorem GG{ks:List Int}{b:Addr}{Q:Bool->ah->Prop}{n:Nat}(hk:TK prog w s.heap ks b)(h:Q true s):wpAny (model prog w) A (Cm (n+1) (.ref b)) Q E s:=by
 obtain⟨ob,items,m,ho,hc,hd,hi⟩:=id hk
 unfold Cm
 refine aa (gB hk.typeIs PySem.F.slot_tuple_hash.lookup ?_)
 refine aa (dA ho hd ?_)
 have loop: ∀(l:List Value),(∀v∈l, ∃i tk,v=gD i tk)->wpAny (model prog w) A (forIn l ((none,()):Option Bool×Unit) fun x __s=>do
      let __do_lift<-Cm n x
      if(!__do_lift)=true then pure (ForInStep.done (some false,()))else pure (iE (none,()))) (fun r s'=>r=(none,())/\s'=s) E s:=by
  intro l
  induction l with
  | nil=>intro _; rw [fV]; exact af ⟨rfl,rfl⟩
  | cons v l ih=>
   intro hv
   rw [cP]
   obtain⟨i,tk,rfl⟩:=hv v (.head _)
   have e:Cm n (.int i tk)=pure true:=by cases n <;> rfl
   rw [e]
   exact aa (af (ih fun x hx=>hv x (.tail _ hx)))
 rw [Option.getD_some, <-gr]
 refine aa (bN (loop items.toList (vN hi)) (fun r s' hr=> ?_) fun _ _ x=>x)
 obtain⟨rfl,rfl⟩:=hr
 exact af h
theorem DE{ks:List Int}{b:Addr}{Q:Bool->ah->Prop}(hk:TK prog w s.heap ks b): ∀(l:List Value),(∀v∈l, ∃ks' b',v=ak b'/\TK prog w s.heap ks' b')->Q false s->wpAny (model prog w) A (searchCouldBeSeen (.ref b) l) Q E s:=by
 intro l hl h
 unfold searchCouldBeSeen
 have loop: ∀(l:List Value),(∀v∈l, ∃ks' b',v=ak b'/\TK prog w s.heap ks' b')-> ∀body:Value->Option Bool×Unit->Sem (ForInStep (Option Bool×Unit)),
   (∀ks' b' (R:ForInStep (Option Bool×Unit)->ah->Prop),TK prog w s.heap ks' b'->R (.yield (none,())) s->wpAny (model prog w) A (body (.ref b') (none,())) R E s)->
   wpAny (model prog w) A (forIn l ((none,()):Option Bool×Unit) body) (fun r s'=>r=(none,())/\s'=s) E s:=by
  intro l
  induction l with
  | nil=>intro _ body hb; rw [fV]; exact af ⟨rfl,rfl⟩
  | cons v l ih=>
   intro hv body hb
   rw [cP]
   obtain⟨ks',b',rfl,hk'⟩:=hv v (.head _)
   exact aa (hb ks' b' _ hk' (ih (fun x hx=>hv x (.tail _ hx)) body hb))
 refine aa (bN (loop l hl _ fun ks' b' R hk' hR=> ?_) (fun r s' hr=> ?_) fun _ _ x=>x)
 ·dsimp only
  split
  ·exact af hR
  ·refine aa (wpAny_eqIsQuiet_tuple hk ?_)
   simp only [eP,a_,if_false]
   refine aa (wpAny_eqIsQuiet_tuple hk' ?_)
   simp only [eP,a_,if_false]
   refine aa (yo hk ?_)
   simp only [a_,if_false]
   refine aa (yo hk' ?_)
   simp only [a_,if_false]
   exact af hR
 ·obtain⟨rfl,rfl⟩:=hr
  exact af h
theorem HH{t:cH}{j i:Nat}(h:t.slot j= .live i)(hp:t.place[i]? =some j):i < t.place.size:=(bU.mp hp).1
def Ff(prog:aq)(w:World)(h:Heap)(es:Array (Int×Value))(ks:List Int)(i:Nat):Prop:= ∀b,es[i]? =some (lH prog w ks,ak b)-> ¬TK prog w h ks b
theorem u6(hu:A.units < cLine)(S:PS prog w led s.heap a o es ep t){ks:List Int}{b:Addr}(hk:TK prog w s.heap ks b){Q:SetFound->ah->Prop}
  (h1:(∃b',(lH prog w ks,ak b')∈es.toList/\TK prog w s.heap ks b')->Q (.there none) s)(h2: ∀j m,t.slot j= .empty->j < 8->j=(fh t m (t.probeStart (lH prog w ks))).j->(∀m',m' < m-> ∃i,t.slot (fh t m' (t.probeStart (lH prog w ks))).j= .live i/\Ff prog w s.heap es ks i)->Q (.free j false) s):
  ∀(K fuel:Nat) (stand:Option cW) (n0:Nat),stand.getD (t.probeStart (lH prog w ks))=fh t n0 (t.probeStart (lH prog w ks))->(∀m',m' < n0-> ∃i,t.slot (fh t m' (t.probeStart (lH prog w ks))).j= .live i/\Ff prog w s.heap es ks i)->K < fuel->ou (stand.getD (t.probeStart (lH prog w ks)))->t.slot (fh t K (stand.getD (t.probeStart (lH prog w ks)))).j= .empty->K<=20->
   wpAny (model prog w) A (yO a (.ref b) (lH prog w ks) true fuel stand) Q E s
 | K,0,_,_,_,_,hf,_,_,_=>by omega
 | K,fuel+1,stand,n0,hpos,hvis,hf,hp,he,h20=>by
  unfold yO
  refine aa (S.state ?_)
  dsimp only
  have hg:t.gaveWay=false:=by unfold SetTable.gaveWay; rw [S.mask]; rfl
  rw [hg]
  simp only [a_,if_false]
  generalize hpr:t.probe _ _ _=met
  have hturn:10 * SetTable.turns t.mask=220:=by rw [S.mask]; rfl
  have vis: ∀m:Nat,(∀m',m' < m-> ∃i,t.slot (fh t m' (stand.getD (t.probeStart (lH prog w ks)))).j= .live i/\(es[i]?.map (·.1)).getD 0≠lH prog w ks)-> ∀m',m' < n0+m-> ∃i,t.slot (fh t m' (t.probeStart (lH prog w ks))).j= .live i/\Ff prog w s.heap es ks i:=fun m hv m' hm'=>by
   by_cases hlt:m' < n0
   ·exact hvis m' hlt
   ·obtain⟨i,hi1,hi2⟩:=hv (m' - n0) (by omega)
    rw [hpos, <-lb,show n0+(m' - n0)=m' by omega]at hi1
    exact⟨i,hi1,fun b hb _=>hi2 (by rw [hb]; rfl)⟩
  rcases EK S.mask S.Gy (hashAt:=_) (h:=lH prog w ks) K _ (10 * SetTable.turns t.mask) hp he (by rw [hturn]; omega)with⟨j,m,e,hj,hj8,hjm,hv⟩ | ⟨j,i,next,K',m,e,hj,hi,hK,he',hp',hjm,hnx,hv⟩
  ·cases hpr.symm.trans e
   exact af (h2 j (n0+m) hj hj8 (by rw [hjm,hpos, <-lb]) (vis m hv))
  ·cases hpr.symm.trans e
   dsimp only
   have hlt:i < es.size:=by rw [<-S.size]; exact HH hj hi
   have hm:es[i]∈es.toList:=by simp
   obtain⟨ks',b',ee,hk'⟩:=S.el _ hm
   have hget:es[i]? =some (lH prog w ks',ak b'):=by rw [cS hlt,ee]
   rw [ee]at hm
   have main:wpAny (model prog w) A (match es[i]? with
     | some (_,y)=>do
      let equal<-kg [y] (eqBool y (ak b))
      let __x<-setState a
      if(true&&equal)=true then pure (SetFound.there none)
       else
        match __x.2.snd.sameMemory t.moves t.mask with
        | some same=>do
         let still<-match if same=true then __x.2.snd.slot j else SetTable.Slot.empty with
          | SetTable.Slot.live i'=>
           match __x.fst[i']? with
           | some (_,y')=>do
            let __do_lift<-isSame y' y
            pure (if __do_lift=true then some i' else none)
           | none=>pure none
          | _=>pure none
         match still with
          | none=>do
           rule "set.search.anew"
           yO a (ak b) (lH prog w ks) true fuel none
          | some i'=>
           if equal=true then pure (SetFound.there (some i'))
           else yO a (ak b) (lH prog w ks) true fuel (some next)
        | _=>iY "set.changed-during-lookup:is-the-new-block-at-the-old-address"
     | _=>iY "internal:set-entry") Q E s:=by
    rw [hget]
    dsimp only
    refine aa (bG (wpAny_eqBool_tuple hu hk' hk ?_))
    refine aa (S.state ?_)
    by_cases hkk:ks'=ks
    ·subst hkk
     rw [decide_eq_true rfl,if_pos (show(true&&true)=true from rfl)]
     exact af (h1 ⟨b',hm,hk'⟩)
    ·rw [decide_eq_false hkk,if_neg (show ¬(true&&false)=true by decide)]
     have hsm:t.sameMemory t.moves t.mask=some true:=by unfold SetTable.sameMemory; rw [if_pos (beq_self_eq_true _)]
     dsimp only
     rw [hsm]
     dsimp only
     rw [if_pos rfl,hj]
     dsimp only
     rw [hget]
     dsimp only
     refine aa (wpAny_isSame_ref_self ?_)
     rw [if_pos rfl]
     refine aa (af ?_)
     dsimp only
     rw [if_neg (by decide)]
     refine u6 hu S hk h1 h2 K' fuel (some next) (n0+(m+1)) (by rw [Option.getD_some,hnx,hpos, <-lb]) (fun m' hm'=> ?_) (by omega) hp' he' (by omega)
     by_cases hlt:m' < n0+m
     ·exact vis m hv m' hlt
     ·have em:m'=n0+m:=by omega
      subst em
      refine⟨i,by rw [lb, <-hpos, <-hjm]; exact hj,fun b2 hb2 hk2=> ?_⟩
      rw [hget]at hb2
      have e2:b'=b2:=by injection hb2 with z; injection z with _ z; injection z
      rw [<-e2]at hk2
      exact hkk (oZ hk' hk2)
   by_cases hl:t.led=true
   ·rw [hl]
    simp only [eP,a_,if_false]
    exact main
   ·rw [Bool.not_eq_true]at hl
    rw [hl]
    simp only [Bool.not_false,if_true]
    refine aa (DE hk _ (fun v hv=> ?_) ?_)
    ·obtain⟨x,hx,rfl⟩:=a9.mp hv
     have hx':x∈es.toList:=by
      have:x∈es/\x.fst=lH prog w ks:=by simpa using hx
      simpa using this.1
     obtain⟨ks2,b2,rfl,hk2⟩:=S.el x hx'
     exact⟨ks2,b2,rfl,hk2⟩
    ·simp only [a_,if_false]
     exact main
theorem oC{α:Type}(xs:Array α)(p:Nat)(x:α):(bS xs p x).toList=xs.toList.take p ++ x::xs.toList.drop p:=by
 unfold bS
 simp [jJ,dB]
theorem k7{α:Type}(xs:Array α)(p:Nat)(x:α):(bS xs p x).size=xs.size+1:=by
 rw [<-aj,oC,ao,aH,a8,bw,aj]
 omega
theorem vD{α:Type}(xs:Array α)(p:Nat)(x e:α):e∈(bS xs p x).toList↔e∈xs.toList\/e=x:=by
 rw [oC,bE,aK]
 have h:=aU p xs.toList
 constructor
 ·rintro(h1 | h1 | h1)
  ·exact .inl (gV h1)
  ·exact .inr h1
  ·exact .inl (jK h1)
 ·rintro(h1 | h1)
  ·rw [<-h,bE]at h1
   exact h1.elim .inl fun z=> .inr (.inr z)
  ·exact .inr (.inl h1)
theorem TK.at{h h':Heap}{a b:Addr}{ks:List Int}{o:Obj}{es:Array (Int×Value)}{ep:Nat}{t:cH}(x:TK prog w h ks b)(ho:h.get? a=some o)(hd:o.data= .set es ep t)(sb:bH a h h'):TK prog w h' ks b:=by
 obtain⟨o',items,n,ho',hc,hd',hi⟩:=x
 have hne:b≠a:=by
  rintro rfl
  rw [ho]at ho'
  cases ho'
  rw [hd]at hd'
  cases hd'
 exact⟨o',items,n,(sb.2 b hne).trans ho',hc,hd',hi⟩
theorem nA{α:Type}{xs:Array α}{p:Nat}(hp:p<=xs.size)(x:α)(i:Nat):(bS xs p x)[i]? =if i < p then xs[i]? else if i=p then some x else xs[i - 1]? :=by
 rw [<-bp,oC,Cn,a8,aj,IT hp]
 by_cases h1:i < p
 ·rw [if_pos h1,if_pos h1,qr,if_pos h1,bp]
 ·rw [if_neg h1,if_neg h1]
  by_cases h2:i=p
  ·subst h2
   rw [if_pos rfl,kj]
   rfl
  ·rw [if_neg h2,show i - p=(i - p - 1)+1 by omega,cu,List.getElem?_drop,bp]
   congr 1
   omega
theorem mK(t:cH)(j:Nat): ∀(k:Nat) (p:cW),fh (t.put j).fst k p=fh t k p
 | 0,_=>rfl
 | k+1,p=>by
  show fh (t.put j).fst k ((t.put j).fst.advance p)=fh t k (t.advance p)
  rw [mK t j k]
  rfl
theorem JD(hu:A.units < cLine)(S:PS prog w led s.heap a o es ep t)(h3:es.size < 4){ks:List Int}{b:Addr}(hk:TK prog w s.heap ks b){Q:Bool->ah->Prop}
  (h1:(∃b',(lH prog w ks,ak b')∈es.toList/\TK prog w s.heap ks b')->Q false s)
  (h2: ∀(h':Heap) (o':Obj) (es':Array (Int×Value)) (t':cH),bH a s.heap h'->PS prog w led h' a o' es' (ep+1) t'->(∀e,e∈es'.toList↔e∈es.toList\/e=(lH prog w ks,ak b))->es'.size=es.size+1->Q true {s with heap:=h'}):
  wpAny (model prog w) A (setAddHashed a (.ref b) (lH prog w ks)) Q E s:=by
 unfold setAddHashed setAddHashedIn
 refine bG (aa (S.state ?_))
 dsimp only
 have hbs:byScan (.ref b) es=false:=rfl
 rw [hbs]
 simp only [a_,if_false]
 obtain⟨p1,p2⟩:=C7 S.mask (lH prog w ks)
 obtain⟨K,hK,he⟩:=reach S.mask S.Gy (by rw [S.size]; have:=S.lu; omega) p1 p2
 refine aa ?_
 unfold setSearch
 refine u6 hu S hk (fun hx=> ?_) (fun j m hj hj8 hjm hvis=> ?_) K 100000 none 0 rfl (fun m' h=>absurd h (nR _)) (by omega) p1 he hK
 ·exact af (h1 hx)
 ·dsimp only
  refine aa (S.state ?_)
  have hpl:(t.put j).fst.plain=true:=S.plain
  rw [if_pos hpl]
  refine aa (GG hk ?_)
  rw [if_pos rfl]
  have hsz:=S.size
  have hps:(t.put j).fst.place.size=es.size+1:=by
   show(bS t.place _ j).size=_
   rw [k7,hsz]
  have hdm:(t.put j).fst.dummies= #[]:=by
   show(if SetTable.has t.dummies j then SetTable.eraseAt t.dummies (cO t.dummies j)else t.dummies)= #[]
   rw [S.Gy]
   rfl
  have hmk:(t.put j).fst.mask=7:=S.mask
  have hfull:(t.put j).fst.tooFull=false:=by
   unfold SetTable.tooFull SetTable.fill
   rw [hps,hdm,hmk]
   simp
   omega
  refine aa (wpAny_storeSet_of S.get S.dat ?_ (by rw [k7,eO]; show es.size+1<=_; omega))
  rw [hfull]
  simp only [kT,a_,if_false]
  have hpl':(t.put j).fst.place.toList∈subs:=by
   refine Hf S.pl (by rw [hsz]; exact h3) hj8 fun z=> ?_
   unfold yN at hj
   dsimp only at hj
   rw [if_pos (by rw [z]; exact beq_self_eq_true _)]at hj
   cases hj
  have hle:(t.put j).snd<=t.place.size:=EI S.pl hj8
  have hle2:(t.put j).snd<=es.size:=by rw [<-hsz]; exact hle
  have gp: ∀i,(t.put j).fst.place[i]? =if i < (t.put j).snd then t.place[i]? else if i=(t.put j).snd then some j else t.place[i - 1]? :=nA hle j
  have ge: ∀i,(bS es (t.put j).snd (lH prog w ks,ak b))[i]? =if i < (t.put j).snd then es[i]? else if i=(t.put j).snd then some (lH prog w ks,ak b)else es[i - 1]? :=nA hle2 _
  have full: ∀r,t.slot r≠ .empty->(t.put j).fst.slot r≠ .empty:=fun r hr=>by
   rw [slot_mem hdm hpl']
   exact(vD _ _ _ _).mpr (.inl ((slot_mem S.Gy S.pl).mp hr))
  have alone: ∀i b',es[i]? =some (lH prog w ks,ak b')-> ¬TK prog w s.heap ks b':=fun i b' hi hk'=>by
   obtain⟨Ki,k1,k2⟩:=S.on i _ hi
   have sl:=slot_of S.pl k1
   by_cases hlt:Ki < m
   ·obtain⟨i',v1,v2⟩:=hvis Ki hlt
    rw [sl]at v1
    cases v1
    exact v2 b' hi hk'
   ·by_cases heq:Ki=m
    ·subst heq
     rw [<-hjm,hj]at sl
     cases sl
    ·exact k2 m (by omega) (by rw [<-hjm]; exact hj)
  have hsb:=bB s.heap a (Obj.putSet (bS es (t.put j).snd (lH prog w ks,ak b)) (t.put j).fst)
  refine af (h2 _ {o with data:= .set (bS es (t.put j).snd (lH prog w ks,ak b)) (ep+1) (t.put j).fst} (bS es (t.put j).snd (lH prog w ks,ak b)) (t.put j).fst hsb ⟨?_, ?_,rfl,hmk,hdm,by rw [hps,k7],hpl,S.led,by rw [k7]; omega,hpl',fun e he=> ?_,fun i e he=> ?_, ?_⟩ (fun e=>vD _ _ _ _) (k7 _ _ _))
  ·have:=cT (Obj.putSet (bS es (t.put j).snd (lH prog w ks,ak b)) (t.put j).fst) S.get (by rw [putSet_of _ _ S.dat]; rfl)
   rw [putSet_of _ _ S.dat]at this
   exact this
  ·exact S.ex
  ·rcases(vD _ _ _ _).mp he with he | rfl
   ·obtain⟨ks',b',e1,hk'⟩:=S.el e he
    exact⟨ks',b',e1,TK.at hk' S.get S.dat hsb⟩
   ·exact⟨ks,b,rfl,TK.at hk S.get S.dat hsb⟩
  ·have old: ∀i',es[i']? =some e->(t.put j).fst.place[i]? =t.place[i']? -> ∃K,(t.put j).fst.place[i]? =some (fh (t.put j).fst K ((t.put j).fst.probeStart e.1)).j/\ ∀K',K' < K->(t.put j).fst.slot (fh (t.put j).fst K' ((t.put j).fst.probeStart e.1)).j≠ .empty:=fun i' h1 h2=>by
    obtain⟨K,k1,k2⟩:=S.on i' e h1
    refine⟨K,by rw [h2,k1,mK]; rfl,fun K' hK'=> ?_⟩
    rw [mK]
    exact full _ (k2 K' hK')
   rw [ge i]at he
   split at he
   ·rename_i hlt
    exact old i he (by rw [gp i,if_pos hlt])
   ·rename_i hlt
    split at he
    ·rename_i heq
     cases he
     refine⟨m,by rw [gp i,if_neg hlt,if_pos heq,mK,hjm]; rfl,fun K' hK'=> ?_⟩
     rw [mK]
     obtain⟨i',v1,_⟩:=hvis K' hK'
     exact full _ (by show t.slot (fh t K' (t.probeStart (lH prog w ks))).j≠_; rw [v1]; intro z; cases z)
    ·rename_i heq
     exact old (i - 1) he (by rw [gp i,if_neg hlt,if_neg heq])
  ·obtain⟨kk,k1,k2,k3⟩:=S.nd
   have hni:ks∉kk:=fun hm'=>by
    obtain⟨i,hi,e1⟩:=fH hm'
    obtain⟨b',e2,e3⟩:=k3 i ks (by rw [ai hi,e1])
    exact alone i b' e2 e3
   have hlk:(t.put j).snd<=kk.length:=by rw [k1]; exact hle2
   refine⟨kk.take (t.put j).snd ++ ks::kk.drop (t.put j).snd, ?_, ?_,fun i k hk'=> ?_⟩
   ·rw [ao,aH,a8,bw,k7]
    omega
   ·have hp:(kk.take (t.put j).snd ++ ks::kk.drop (t.put j).snd).Perm (ks::kk):=by
     refine Ic.trans ?_
     rw [aU]
    exact hp.symm.nodup (eF.mpr ⟨hni,k2⟩)
   ·rw [Cn,a8,IT hlk]at hk'
    have keep: ∀(i':Nat) (b':Addr),es[i']? =some (lH prog w k,ak b')->TK prog w s.heap k b'->(bS es (t.put j).snd (lH prog w ks,ak b))[i]? =es[i']? -> ∃b',(bS es (t.put j).snd (lH prog w ks,ak b))[i]? =some (lH prog w k,ak b')/\TK prog w _ k b':=fun i' b' h1 h2 h3=>⟨b',by rw [h3,h1],TK.at h2 S.get S.dat hsb⟩
    by_cases hlt:i < (t.put j).snd
    ·rw [if_pos hlt,qr,if_pos hlt]at hk'
     obtain⟨b',e1,e2⟩:=k3 i k hk'
     exact keep i b' e1 e2 (by rw [ge i,if_pos hlt])
    ·rw [if_neg hlt]at hk'
     by_cases heq:i=(t.put j).snd
     ·rw [heq,kj]at hk'
      have:ks=k:=by simpa using hk'
      subst this
      exact⟨b,by rw [ge i,if_neg hlt,if_pos heq],TK.at hk S.get S.dat hsb⟩
     ·rw [show i - (t.put j).snd=(i - (t.put j).snd - 1)+1 by omega,cu,List.getElem?_drop,show(t.put j).snd+(i - (t.put j).snd - 1)=i - 1 by omega]at hk'
      obtain⟨b',e1,e2⟩:=k3 (i - 1) k hk'
      exact keep (i - 1) b' e1 e2 (by rw [ge i,if_neg hlt,if_neg heq])
end
abbrev qC(w:World):Bool:=w.params.followText "set-order"
section
variable {prog:aq}{w:World}
def wF(prog:aq)(w:World)(h:Heap)(a:Addr)(val:Nat->List Int)(T:Nat->Addr)(i:Nat):Prop:=
 ∃o es ep t,PS prog w (!qC w) h a o es ep t/\es.size<=i/\(∀e∈es.toList, ∃j,j < i/\e=(lH prog w (val j),ak (T j)))/\ ∀j,j < i-> ∃j',j' < i/\(lH prog w (val j'),ak (T j'))∈es.toList/\val j'=val j
theorem TK.keep{h h':Heap}{b:Addr}{ks:List Int}(x:TK prog w h ks b)(k: ∀o,h.get? b=some o->h'.get? b=some o):TK prog w h' ks b:=by
 obtain⟨o,items,n,ho,r⟩:=x
 exact⟨o,items,n,k o ho,r⟩
theorem wF.at{h h':Heap}{a:Addr}{val:Nat->List Int}{T:Nat->Addr}{i:Nat}(x:wF prog w h a val T i)(hk: ∀o,h.get? a=some o->h'.get? a=some o)(ht: ∀j,j < i-> ∀o,h.get? (T j)=some o->h'.get? (T j)=some o):wF prog w h' a val T i:=by
 obtain⟨o,es,ep,t,S,h1,h2,h3⟩:=x
 have mv: ∀ks b v,(v,ak b)∈es.toList->TK prog w h ks b->TK prog w h' ks b:=fun ks b v hm hk=>by
  obtain⟨j,hj,e⟩:=h2 _ hm
  have e2:b=T j:=by injection e with _ z; injection z
  subst e2
  exact hk.keep (ht j hj)
 refine⟨o,es,ep,t,⟨hk o S.get,S.ex,S.dat,S.mask,S.Gy,S.size,S.plain,S.led,S.lu,S.pl,fun e he=> ?_,S.on, ?_⟩,h1,h2,h3⟩
 ·obtain⟨ks,b,rfl,hkk⟩:=S.el e he
  exact⟨ks,b,rfl,mv ks b _ he hkk⟩
 ·obtain⟨kk,k1,k2,k3⟩:=S.nd
  refine⟨kk,k1,k2,fun i k e=> ?_⟩
  obtain⟨b,e1,e2⟩:=k3 i k e
  exact⟨b,e1,mv k b _ (by simpa using A9 e1) e2⟩
variable {A:bh}{R:Result->ah->Prop}{I:Addr}{fp wr:List Addr}{G:Array wJ->Array wJ->Prop}{n:Nat}{P:Nat->Value->Prop}{St:Nat->ah->Prop}
theorem Bv(W:WalksS prog w A.in1 I fp wr G n P St)(hu:A.units+8 < cLine)(S:Addr)(hSf:S∉fp)(val:Nat->List Int)(T:Nat->Addr)(hval: ∀i v,P i v->v=ak (T i))(hT: ∀i,i < n->T i∉wr/\T i≠S)(hn:n<=4):
  ∀(k i:Nat) (s:ah),n - i=k->i<=n->St i s->wF prog w s.heap S val T i->(∀j,j < n->TK prog w s.heap (val j) (T j))->
   (∀s',Moved (S::wr) G s s'->wF prog w s'.heap S val T n->R (.ok (.ret .none)) s')->
   fu (model prog w) A (.builtin "set.update.loop" ⟨[.ref S, .ref I], []⟩) R s:=by
 have hSw:S∉wr:=fun h=>hSf (W.sub _ h)
 have hsub: ∀b∈wr,b∈S::wr:=fun b hb=>cb _ hb
 intro k
 induction k with
 | zero=>
  intro i s hk hi hst hS hTK hR
  have hin:i=n:=by omega
  subst hin
  refine c8 PyProof.Rows.F.entry_set_update_loop ?_
  rw [cy ip _]
  show wpAny _ A.in1 (iS (.ref I) >>=_) _ _ s
  refine aa (W.done s _ _ hst fun s' hm=> ?_)
  show wpAny _ A.in1 (ret aY) _ _ s'
  exact af (hR s' (hm.mono hsub) (hS.at (fun o e=>hm.heap S o hSw e) fun j hj o e=>hm.heap _ o (hT j hj).1 e))
 | succ k ih=>
  intro i s hk hi hst hS hTK hR
  have hlt:i < n:=by omega
  refine c8 PyProof.Rows.F.entry_set_update_loop ?_
  rw [cy ip _]
  show wpAny _ A.in1 (iS (.ref I) >>=_) _ _ s
  refine aa (W.item i s _ _ hlt hst fun v s' hP hst' hm=> ?_)
  have hv:=hval i v hP
  subst hv
  have hTK': ∀j,j < n->TK prog w s'.heap (val j) (T j):=fun j hj=>(hTK j hj).keep fun o e=>hm.heap _ o (hT j hj).1 e
  have hS':wF prog w s'.heap S val T i:=hS.at (fun o e=>hm.heap S o hSw e) fun j hj o e=>hm.heap _ o (hT j (by omega)).1 e
  show wpAny _ A.in1 (kg [ak (T i)] (setAdd S (.ref (T i))) >>=_) _ _ s'
  refine aa (bG ?_)
  unfold setAdd
  refine bG ?_
  refine aa (wpAny_pyHash_tuple (by show A.units+1 < cLine; omega) (hTK' i hlt) ?_)
  obtain⟨o,es,ep,t,PSx,q1,q2,q3⟩:=hS'
  have next: ∀h':Heap,bH S s'.heap h'->wF prog w h' S val T (i+1)-> ∀tk,s'.toks<=tk->
    fu (model prog w) A (.builtin "set.update.loop" ⟨[.ref S, .ref I], []⟩) R {s' with heap:=h',toks:=tk}:=fun h' hsb hSi tk htk=>by
   refine ih (i+1) _ (by omega) hlt (W.frame _ s' _ _ hst' htk fun b hb o e=> ?_) hSi (fun j hj=>(hTK' j hj).keep fun o e=>by rw [hsb.2 _ (hT j hj).2]; exact e) fun s'' hm'' hS''=> ?_
   ·rw [hsb.2 b (fun h:b=S=>hSf (by rw [<-h]; exact hb))]; exact e
   ·refine hR s'' (Moved.trans W.gtrans ((hm.mono hsub).then_heap htk fun b o hb e=> ?_) hm'') hS''
    rw [hsb.2 b (fun h:b=S=>hb (by rw [h]; exact bT))]; exact e
  refine JD (s:={s' with toks:=s'.toks+((val i).length+1)}) (by show A.units+1 < cLine; omega) PSx (by omega) (hTK' i hlt) (fun hx=> ?_) fun h' o' es' t' hsb PSy hm2 hsz=> ?_
  ·refine af ⟨dz ip _,next s'.heap (dC S s'.heap) ⟨o,es,ep,t,PSx,by omega,fun e he=> ?_,fun j hj=> ?_⟩ _ (Nat.le_add_right _ _)⟩
   ·obtain⟨j,hj,e1⟩:=q2 e he
    exact⟨j,by omega,e1⟩
   ·by_cases hji:j=i
    ·subst hji
     obtain⟨b',hb',hk'⟩:=hx
     obtain⟨j',hj',e1⟩:=q2 _ hb'
     have e2:b'=T j':=by injection e1 with _ e3; injection e3
     rw [e2]at hk' hb'
     have e4:val j'=val j:=oZ (hTK' j' (by omega)) hk'
     refine⟨j',by omega, ?_,e4⟩
     rw [e4]
     exact hb'
    ·obtain⟨j',hj',e1,e2⟩:=q3 j (by omega)
     exact⟨j',by omega,e1,e2⟩
  ·refine af ⟨dz ip _,next h' hsb ⟨o',es',ep+1,t',PSy,by omega,fun e he=> ?_,fun j hj=> ?_⟩ _ (Nat.le_add_right _ _)⟩
   ·rcases(hm2 e).mp he with he | he
    ·obtain⟨j,hj,e1⟩:=q2 e he
     exact⟨j,by omega,e1⟩
    ·exact⟨i,by omega,he⟩
   ·by_cases hji:j=i
    ·subst hji
     exact⟨j,by omega,(hm2 _).mpr (.inr rfl),rfl⟩
    ·obtain⟨j',hj',e1,e2⟩:=q3 j (by omega)
     exact⟨j',by omega,(hm2 _).mpr (.inl e1),e2⟩
end
section
variable {prog:aq}{w:World}{A:bh}{E:Value->ah->Prop}{s:ah}
theorem xM(a:Value){Q₁:Value->ah->Prop}(h:Q₁ (.ref s.heap.objs.size) {s with heap:=s.heap.push {cls:= .type "set",dict:=none,data:= .set #[] 0 (.fresh 0 0 (!qC w))}}):
  fu (model prog w) A (.call (.builtin "set.__new__") ⟨[.type "set",a], []⟩) (wants Q₁ E) s:=by
 refine codeAny_of_tree ?_
 show wpAny _ A.in1 (do Ie "set.__new__" ⟨[.type "set",a], []⟩; again (.builtin "set.__new__" ⟨[.type "set",a], []⟩)) _ _ s
 refine aa (uf (PySem.F.newCall_set_1 a) (af ⟨dz PySem.F.plain_set_new _,c8 PySem.F.entry_set_new ?_⟩))
 rw [cy PySem.F.plain_set_new _]
 unfold c6.«set.__new__» Builtin.Frozenset.newClass
 have hsub:=PySem.sub_set_self
 obtain⟨hp,g,d,tk,os⟩:=s
 dsimp only
 wp_walk
 refine mC (af ?_)
 dsimp only
 simp only [newObj]
 refine aa (wpAny_alloc (af ?_))
 exact af h
set_option maxHeartbeats 3200000 in
theorem Fo{l:Addr}{items:Array Value}{n:Nat}{val:Nat->List Int}{T:Nat->Addr}{Q:Value->ah->Prop}(hh:A.handled=none)(hu:A.units+16 < cLine)(hl:s.heap.IsList l items)(hn:items.size=n)(h4:n<=4)
  (hi: ∀i,i < n->items[i]? =some (.ref (T i)))(hTK: ∀i,i < n->TK prog w s.heap (val i) (T i))
  (h: ∀(h':Heap) (tk:Nat),wF prog w h' s.heap.objs.size val T n->(∀b o,b < s.heap.objs.size->s.heap.get? b=some o->h'.get? b=some o)->Q (.ref s.heap.objs.size) {s with heap:=h',toks:=tk}):
  wpAny (model prog w) A (call (.type "set") [.ref l]) Q E s:=by
 obtain⟨c,tl,hmro⟩:=e9.mro
 have hmade:=e9.made
 have hsub:=e9.sub
 refine wL (codeAny_of_tree ?_)
 show wpAny _ _ (callAny (.type "set") _) _ _ _
 refine af ⟨Code.quiet_builtin _ (by decide +kernel),c8 PySem.F.entry_type_call ?_⟩
 rw [Around.under_plain (weight_type_call_type "set" [.ref l] []) rfl]
 have h1:=e9.notType
 have h2:=e9.canCreate
 have hct:=PySem.F.typeCall_set_1 (.ref l)
 repeat (any_goals (first | assumption | wp_step))
 refine ja (xM (.ref l) (E:=E) (Q₁:=fun obj s₁=>obj= .ref s.heap.objs.size/\s₁={s with heap:=s.heap.push {cls:= .type "set",dict:=none,data:= .set #[] 0 (.fresh 0 0 (!qC w))}}) ⟨rfl,rfl⟩) fun r s₁ hr=> ?_
 cases r with
 | error e=>exact hr
 | ok fl=>
  cases fl with
  | ret obj=>
   obtain⟨rfl,rfl⟩:=hr
   have hS:(s.heap.push {cls:= .type "set",dict:=none,data:= .set #[] 0 (.fresh 0 0 (!qC w))}).get? s.heap.objs.size=some {cls:= .type "set",dict:=none,data:= .set #[] 0 (.fresh 0 0 (!qC w))}:=aw _ rfl
   have hT1:gF {s with heap:=s.heap.push {cls:= .type "set",dict:=none,data:= .set #[] 0 (.fresh 0 0 (!qC w))}} (.ref s.heap.objs.size) "set":=⟨_,hS,rfl⟩
   have hli:=e9.init.lookup
   have hbi:=e9.init.bind (.ref s.heap.objs.size)
   repeat (any_goals (first | assumption | wp_step))
   refine ja (codeAny_call_builtin (R:=wants (fun r s₂=>r= .none/\ ∃h' tk,s₂={s with heap:=h',toks:=tk}/\wF prog w h' s.heap.objs.size val T n/\
     (∀b o,b < s.heap.objs.size->s.heap.get? b=some o->h'.get? b=some o)) E) e9.init.plain PySem.F.entry_set_init (check_set_init_1 hT1 ?_)) fun r₂ s₂ hr₂=> ?_
   ·obtain⟨ol,hol,hcl,nl,hdl⟩:=hl
    obtain⟨ocls,odict,odata,oslots⟩:=ol
    simp only at hcl hdl
    subst hcl; subst hdl
    have hol':(s.heap.push {cls:= .type "set",dict:=none,data:= .set #[] 0 (.fresh 0 0 (!qC w))}).get? l=some {cls:= .type "list",dict:=odict,data:= .seq items nl,slots:=oslots}:=ag _ hol
    have hsls:=PySem.F.sub_list_set
    have hslf:=PySem.F.sub_list_frozenset
    have hne:(cq "list"==cq "dict")=false:=by decide
    have hl1:(s.heap.push {cls:= .type "set",dict:=none,data:= .set #[] 0 (.fresh 0 0 (!qC w))}).IsList l items:=⟨_,hol',rfl,nl,rfl⟩
    unfold c6.«set.__init__» noKeywords Builtin.Frozenset.updateFrom
    generalize hPI:tV=PI
    wp_walk
    subst hPI
    refine qO hl1 ?_
    refine aa (wR ?_)
    have hlS:l < s.heap.objs.size:=au hol
    have hneI:l≠(s.heap.push {cls:= .type "set",dict:=none,data:= .set #[] 0 (.fresh 0 0 (!qC w))}).objs.size:=by
     rw [cB]; exact aE (cv hlS)
    have hSf:s.heap.objs.size∉ [(s.heap.push {cls:= .type "set",dict:=none,data:= .set #[] 0 (.fresh 0 0 (!qC w))}).objs.size,l]:=by
     rw [cB]; simp only [aK,aJ,dj,or_false,not_or]
     exact⟨aE (fU _),bP hlS⟩
    have ltT: ∀i,i < n->T i < s.heap.objs.size:=fun i hi'=>by obtain⟨o,_,_,ho,_⟩:=hTK i hi'; exact au ho
    refine Bv ((Walks.list (by simp [hh]) _ l hneI items).toS) (by simp only [jB]; omega) s.heap.objs.size hSf val T (fun i v hv=> ?_) (fun i hi'=>⟨?_,aE (ltT i (by omega))⟩) (by omega) (items.size - 0) 0 _ (by omega) (bQ _)
     ⟨⟨_,aw _ rfl,rfl,rfl⟩,(hl1.push _)⟩ ⟨_, #[],0, .fresh 0 0 (!qC w),⟨ag _ hS,⟨rfl,rfl,rfl⟩,rfl,rfl,rfl,rfl,rfl,rfl,by decide,EB,(fun e he=>by simp at he),(fun i e he=>by simp at he),⟨[],rfl,oY,fun i k e=>by simp at e⟩⟩,ay _,fun e he=>by simp at he,fun j hj=>by omega⟩
     (fun j hj=>(hTK j (by omega)).keep fun o e=>ag _ (ag _ e)) ?hR
    ·have hlt:i < n:=by rw [<-hn]; exact(bU.mp hv).1
     have:=hi i hlt
     rw [hv]at this
     exact aC this
    ·intro z
     have:=ltT i (by omega)
     simp only [aK,dj,or_false]at z
     rw [cB]at z
     exact absurd z (aE (cv this))
    case hR=>
     intro s' hm hS'
     obtain⟨h',g',d',tk',os'⟩:=s'
     have eg:g'=s.gens:=hm.gens
     have ed:d'=s.drawn:=hm.drawn
     have eo:os'=s.os:=hm.os
     subst eg; subst ed; subst eo
     show wpAny _ _ _ _ _ _
     refine af ?_
     show wpAny _ _ (ret aY) _ _ _
     refine af ⟨rfl,h',tk',rfl,by rw [<-hn]; exact hS',fun b o hb e=> ?_⟩
     have hb1:b≠s.heap.objs.size:=aE hb
     have hb2:b≠(s.heap.push {cls:= .type "set",dict:=none,data:= .set #[] 0 (.fresh 0 0 (!qC w))}).objs.size:=by
      rw [cB]; exact aE (cv hb)
     exact hm.heap b o (by simp only [aK,aJ,dj,or_false,not_or]; exact⟨hb1,hb2⟩) (ag _ (ag _ e))
   ·cases r₂ with
    | error e=>exact hr₂
    | ok fl₂=>
     cases fl₂ with
     | ret r=>
      obtain⟨rfl,h',tk,rfl,hS',hk'⟩:=hr₂
      repeat (any_goals (first | assumption | wp_step))
      exact h _ _ hS' hk'
     | _=>exact hr₂.elim
  | _=>exact hr.elim
end
namespace F
theorem sh:entryFor table "set.__iter__"=some c6.«frozenset.__iter__» :=entryFor_alias (id':="frozenset.__iter__") (by kernel_rfl) rfl (by decide +kernel) (by kernel_rfl)
theorem args_set_iter_1(a:Value):argsOk "set.__iter__" ⟨[a], []⟩:=by unfold argsOk; kernel_rfl
theorem iM:Slot "set_iterator" "__next__" "set_iterator.__next__":=
 .of (owner:="set_iterator") (n:="__next__") (by rw [IU,A_]; kernel_rfl) (by decide +kernel) (by decide +kernel) (by decide +kernel)
  (by first | exact .inl (by decide +kernel) | exact .inr (by decide +kernel)) (by rw [o4]; kernel_rfl)
theorem qJ:entryFor table "set_iterator.__next__"=some c6.«set_iterator.__next__» :=entryFor_of_tree (by kernel_rfl)
theorem qi(a:Value):argsOk "set_iterator.__next__" ⟨[a], []⟩:=by unfold argsOk; kernel_rfl
theorem mG:Slot "set_iterator" "__iter__" "set_iterator.__iter__":=
 .of (owner:="set_iterator") (n:="__iter__") (by rw [IU,A_]; kernel_rfl) (by decide +kernel) (by decide +kernel) (by decide +kernel)
  (by first | exact .inl (by decide +kernel) | exact .inr (by decide +kernel)) (by rw [o4]; kernel_rfl)
theorem qL:entryFor table "set_iterator.__iter__"=some c6.«dict_keyiterator.__iter__» :=entryFor_alias (id':="dict_keyiterator.__iter__") (by kernel_rfl) rfl (by decide +kernel) (by kernel_rfl)
theorem pY(a:Value):argsOk "set_iterator.__iter__" ⟨[a], []⟩:=by unfold argsOk; kernel_rfl
theorem Hl:typeLookup (.type "set") "__len__"=pure (some (.builtin "set.__len__")):=by rw [IU,A_]; kernel_rfl
end F
theorem AF{α:Type}(next:Nat->Nat): ∀(fuel k:Nat) (left:List α) (out:Array α),left.length=fuel->(pickOrder.go next fuel k left out).toList.Perm (out.toList ++ left)
 | 0,k,left,out,h=>by
  have:left= []:=yZ.mp h
  subst this
  show out.toList.Perm _
  rw [aZ]
 | fuel+1,k,left,out,h=>by
  have hpos:0 < left.length:=by omega
  have hlt:next k % left.length < left.length:=Nat.mod_lt _ hpos
  have e:left[next k % left.length]? =some left[next k % left.length]:=ai hlt
  show(match left[next k % left.length]? with | some x=>pickOrder.go next fuel (k+1) (left.eraseIdx (next k % left.length)) (out.push x) | none=>out).toList.Perm _
  rw [e]
  dsimp only
  refine(AF next fuel (k+1) _ _ (by rw [List.length_eraseIdx_of_lt hlt]; omega)).trans ?_
  rw [je,aM]
  refine dQ _ ?_
  generalize next k % left.length=j at hlt
  have: ∀(l:List α) (j:Nat) (h:j < l.length),([l[j]] ++ l.eraseIdx j).Perm l:=by
   intro l
   induction l with
   | nil=>intro j h; simp at h
   | cons a l ih=>
    intro j h
    cases j with
    | zero=>exact dD _
    | succ j=>
     have h':j < l.length:=by simpa using h
     refine j_ (List.Perm.swap _ _ _) ?_
     exact List.Perm.cons a (ih j h')
  exact this left j hlt
theorem Bj{α:Type}(next:Nat->Nat)(xs:Array α):(pickOrder next xs).toList.Perm xs.toList:=by
 unfold pickOrder
 refine(AF next xs.size 0 xs.toList #[] (by simp)).trans ?_
 simp
section
variable {prog:aq}{w:World}
def lq(w:World)(a:Addr)(ep:Nat)(es:Array (Int×Value)):Array (Int×Value):=if qC w then pickOrder (w.params.setOrder a ep) es else es
theorem xt(w:World)(a:Addr)(ep:Nat)(es:Array (Int×Value)):(lq w a ep es).toList.Perm es.toList:=by
 unfold lq
 split
 ·exact Bj _ _
 ·exact dD _
theorem rK(w:World)(a:Addr)(ep:Nat)(es:Array (Int×Value)):(lq w a ep es).size=es.size:=by
 have:=(xt w a ep es).length_eq
 simpa using this
def iW(w:World)(t:cH)(i:Nat):Nat:=if qC w then 0 else if i=0 then 0 else t.place.getD (i - 1) 0+1
def ml(w:World)(a:Addr)(ep n:Nat)(t:cH)(i:Nat):Obj:={cls:= .type "set_iterator",data:= .fields #[.int (iW w t i) 0, .int i 0, .ref a, .int n 0, .int ep 0]}
variable {a:Addr}{o:Obj}{es:Array (Int×Value)}{ep:Nat}{t:cH}{A:bh}{E:Value->ah->Prop}{s:ah}
structure PF(led:Bool)(o:Obj)(es:Array (Int×Value))(ep:Nat)(t:cH):Prop where
 ex:o.ExactSet
 dat:o.data= .set es ep t
 mask:t.mask=7
 Gy:t.dummies= #[]
 size:t.place.size=es.size
 plain:t.plain=true
 led:t.led=led
 lu:es.size<=4
 pl:t.place.toList∈subs
theorem PS.pf{led:Bool}{h:Heap}(S:PS prog w led h a o es ep t):PF led o es ep t:=⟨S.ex,S.dat,S.mask,S.Gy,S.size,S.plain,S.led,S.lu,S.pl⟩
theorem PF.fits{led:Bool}(S:PF led o es ep t):t.fits es.size=true:=by
 unfold SetTable.fits SetTable.fill
 rw [S.size,S.Gy,S.mask]
 have:=S.lu
 simp
 omega
theorem PF.state{led:Bool}{Q:(Array (Int×Value)×Nat×cH)->ah->Prop}(S:PF led o es ep t)(hg:s.heap.get? a=some o)(h:Q (es,ep,t) s):wpAny (model prog w) A (setState a) Q E s:=
 wpAny_setState_of hg S.dat S.fits h
theorem HQ{Q:Option (Value×Nat)->ah->Prop}{i:Nat}(S:PF (!qC w) o es ep t)(hg:s.heap.get? a=some o)(hi:i<=es.size)
  (h:Q (((lq w a ep es)[i]?).map fun e=>(e.2,iW w t (i+1))) s):wpAny (model prog w) A (setNext a (iW w t i) i ep) Q E s:=by
 unfold setNext
 refine aa (S.state hg ?_)
 unfold setsByText
 refine aa (aa (mC (af ?_)))
 have hfx:({program:=(model prog w).prog,params:=(model prog w).w.params}:Setting).params.followText "set-order"=qC w:=rfl
 rw [hfx]
 by_cases hb:qC w=true
 ·rw [if_pos hb]
  dsimp only
  rw [if_neg (by simp)]
  unfold setWalk setsByText
  refine aa (aa (S.state hg ?_))
  refine aa (aa (mC (af ?_)))
  rw [hfx,if_pos hb]
  refine aa (mC (af (af ?_)))
  have e1:iW w t (i+1)=0:=by unfold iW; rw [if_pos hb]
  have e2:iW w t i=0:=by unfold iW; rw [if_pos hb]
  rw [e1]at h
  rw [e2]
  unfold lq at h
  rw [if_pos hb]at h
  exact h
 ·rw [if_neg hb]
  dsimp only
  split
  ·rename_i hd
   have hd':(!t.plain&&decide (es.size > 1))=true:=hd
   rw [S.plain]at hd'
   cases hd'
  ·refine aa ?_
   show wpAny (model prog w) A (if(!t.led&& !es.isEmpty)=true then iY "set:maker-not-led" else pure ()) _ _ _
   have hbf:qC w=false:=by simpa using hb
   have hled:t.led=true:=by rw [S.led,hbf]; rfl
   rw [hled,if_neg (by simp)]
   refine af (af ?_)
   have e0:iW w t i=if i=0 then 0 else t.place.getD (i - 1) 0+1:=by unfold iW; rw [if_neg hb]
   have hix:cO t.place (iW w t i)=i:=by rw [e0]; exact Dm S.pl (by rw [S.size]; exact hi)
   rw [hix]
   unfold lq at h
   rw [if_neg hb]at h
   by_cases hlt:i < es.size
   ·have h1:es[i]? =some es[i]:=cS hlt
    have hlt2:i < t.place.size:=by rw [S.size]; exact hlt
    have h2:t.place[i]? =some t.place[i]:=cS hlt2
    rw [h1]at h ⊢
    rw [h2]
    have e1:iW w t (i+1)=t.place[i]+1:=by
     unfold iW
     rw [if_neg hb,if_neg (by omega),Nat.add_sub_cancel]
     congr 1
     simp [Array.getD,hlt2]
    rw [e1]at h
    exact h
   ·have h1:es[i]? =none:=by simp; omega
    rw [h1]at h ⊢
    exact h
theorem Dv{Q:Option Value->ah->Prop}{I:Addr}{i:Nat}(hh:A.handled=none)(S:PF (!qC w) o es ep t)(hg:s.heap.get? a=some o)(hI:s.heap.get? I=some (ml w a ep es.size t i))(hi:i<=es.size)
  (h1: ∀e h',(lq w a ep es)[i]? =some e->h'.get? I=some (ml w a ep es.size t (i+1))->bH I s.heap h'->Q (some e.2) {s with heap:=h'})
  (h2:(lq w a ep es)[i]? =none-> ∀h',Co I s.heap h'->Q none {s with heap:=h'}):wpAny (model prog w) A (iS (.ref I)) Q E s:=by
 have hT:s.TypeIs (.ref I) "set_iterator":=⟨_,hI,rfl⟩
 unfold iS
 refine aa (mf (cM (name:=hJ "__next__") hT F.iM (bI F.iM hT F.qJ ?_ (F.qi _))))
 unfold c6.«set_iterator.__next__» slotArgs
 simp only [List.isEmpty_nil,eP,a_, ↓reduceIte,bind_assoc,c7,bne_self_eq_false]
 refine aa (af ?_)
 refine aa (wpAny_fieldsOf hI rfl ?_)
 show wpAny (model prog w) _ (do
  let __do_lift_2<-setEntries a
  if((__do_lift_2.size:Int) !=(es.size:Int))=true then _ else _) _ _ s
 refine aa (wpAny_setEntries_of hg S.dat S.fits ?_)
 rw [if_neg (by simp)]
 show wpAny (model prog w) _ (do
  let __do_lift_3<-setNext a (iW w t i:Int).toNat (i:Int).toNat (ep:Int).toNat
  match __do_lift_3 with
   | some (x,next)=>do
    gW (.ref I) 0 (d_ (next:Int))
    gW (.ref I) 1 (d_ ((i:Int)+1))
    ret x
   | none=>do
    gW (.ref I) 2 aY
    let __do_lift<-t9 (cq "StopIteration") []
    raiseNew __do_lift) _ _ s
 rw [cJ,cJ,cJ]
 refine aa (HQ S hg hi ?_)
 cases e:(lq w a ep es)[i]? with
 | some x=>
  dsimp only [Option.map_some]
  refine aa (cX hI rfl (by show 0 < 5; decide) ?_)
  have hI2:(s.heap.update I (dW (·.setIfInBounds 0 (d_ (iW w t (i+1):Int))))).get? I=some {cls:= .type "set_iterator",data:= .fields #[.int (iW w t (i+1)) 0, .int i 0, .ref a, .int es.size 0, .int ep 0]}:=cT _ hI rfl
  refine aa (cX hI2 rfl (by show 1 < 5; decide) ?_)
  refine af ⟨_,rfl,af (h1 x _ e ?_ ((bB ..).trans (bB ..)))⟩
  exact cT _ hI2 rfl
 | none=>
  dsimp only [Option.map_none]
  refine aa (cX hI rfl (by show 2 < 5; decide) ?_)
  show wpAny _ _ (t9 (.type "StopIteration") [] >>=_) _ _ _
  refine aa ?_
  simp only [t9,newTuple]
  refine aa (bb ?_ (by size_fits))
  refine aa (m:=gX _ _) (uf (a:=aY) (by first | rfl | (simp only [gX]; rfl)) ?_)
  refine bb ?_ (by size_fits)
  simp only [raiseNew]
  refine aa (yP ?_)
  rw [show A.in1.handled=none from hh]
  refine aa (af (Cp ?_))
  refine aa (eS (T:="StopIteration") (b:=true) ⟨_,aw _ rfl,rfl⟩ wU ?_)
  exact af (h2 e _ (((bB ..).extBut.push _).push _))
theorem Cf(hh:A.handled=none)(S:PF (!qC w) o es ep t){I:Addr}(hIa:I≠a):Walks prog w A I [I,a] [I] es.size (fun i v=> ∃e,(lq w a ep es)[i]? =some e/\v=e.2) (fun i h=>h.get? I=some (ml w a ep es.size t i)/\h.get? a=some o/\i<=es.size) where
 sub:=fun b hb=>by rw [aJ.mp hb]; exact bT
 frame:=fun i h h' ⟨x,y,z⟩ hk=>⟨hk I (by simp) _ x,hk a (by simp) _ y,z⟩
 item:=fun i s Q E hi ⟨x,y,z⟩ hQ=>Dv hh S y x z (fun e h' he hI' sb=>hQ _ h' s.toks ⟨e,he,rfl⟩ ⟨hI',(sb.2 a hIa.symm).trans y,hi⟩ fun b ob hb q=>(sb.2 b (by simpa using hb)).trans q) fun he=>by
  have:=rK w a ep es
  rw [cS (by omega)]at he
  cases he
 done:=fun s Q E ⟨x,y,z⟩ hQ=>Dv hh S y x z (fun e h' he _ _=>by
  have:=rK w a ep es
  have:=(bU.mp he).1
  omega) fun _ h' eb=>hQ h' s.toks fun b ob hb q=>eb b ob (by simpa using hb) q
 self:=fun i s Q E ⟨x,y,z⟩ hQ=>by
  have hT:s.TypeIs (.ref I) "set_iterator":=⟨_,x,rfl⟩
  refine jf hT F.mG (bI F.mG hT F.qL ?_ (F.pY _))
  show wpAny _ _ (ret (.ref I)) _ _ s
  exact af ⟨_,rfl,"set_iterator",_,hT,F.iM.lookup,hQ⟩
theorem CZ{Q:Value->ah->Prop}(S:PF (!qC w) o es ep t)(hg:s.heap.get? a=some o)(h:Q (.ref s.heap.objs.size) {s with heap:=s.heap.push (ml w a ep es.size t 0)}):wpAny (model prog w) A (tV (.ref a)) Q E s:=by
 have hT:s.TypeIs (.ref a) "set":=⟨_,hg,S.ex.1⟩
 refine jf hT PySem.F.slot_set_iter (bI PySem.F.slot_set_iter hT F.sh ?_ (F.args_set_iter_1 _))
 unfold c6.«frozenset.__iter__» Builtin.Frozenset.slot0 slotArgs
 simp only [List.isEmpty_nil,eP,a_, ↓reduceIte,bind_assoc,c7,bne_self_eq_false]
 unfold Builtin.Frozenset.addrOf Builtin.Frozenset.sizeOf
 refine aa (af ?_)
 try dsimp only
 refine aa (af ?_)
 refine aa (aa (wpAny_setEntries_of hg S.dat S.fits (af ?_)))
 unfold setDrawn setsByText
 refine aa (aa (S.state hg ?_))
 refine aa (aa (mC (af (af ?_))))
 split
 ·rename_i hd
  have hd':((!qC w)&&(!t.plain&&decide (es.size > 1)))=true:=hd
  rw [S.plain]at hd'
  simp at hd'
 refine aa (af ?_)
 unfold setEpoch
 refine aa (aa (S.state hg (af ?_)))
 have hs0:iW w t 0=0:=by unfold iW; split <;> rfl
 refine aa (bb (af ⟨_,rfl,"set_iterator",_,⟨_,aw _ rfl,rfl⟩,F.iM.lookup, ?_⟩))
 have e:(ml w a ep es.size t 0)={cls:= .type "set_iterator",data:= .fields #[.int ((0:Nat):Int) 0, .int ((0:Nat):Int) 0, .ref a, .int es.size 0, .int ep 0]}:=by unfold ml; rw [hs0]
 rw [e]at h
 exact h
theorem yq{Q:List Value->ah->Prop}(hh:A.handled=none)(S:PF (!qC w) o es ep t)(hg:s.heap.get? a=some o)
  (hQ: ∀h' tk (vs:List Value),s.heap.objs.size < h'.objs.size->(∀b ob,s.heap.get? b=some ob->h'.get? b=some ob)->vs.Perm (es.toList.map (·.2))->Q vs {s with heap:=h',toks:=tk}):wpAny (model prog w) A (collect (.ref a)) Q E s:=by
 have hlt:a < s.heap.objs.size:=au hg
 unfold collect
 refine aa (wR (c8 vm ?_))
 rw [cy vn _]
 show wpAny _ A.in1 (newList [] >>=fun l=>again (.builtin "list.__iadd__" ⟨[l, .ref a], []⟩)) _ _ s
 refine aa (bb ?_)
 refine af ⟨dz fW _,c8 y4 ?_⟩
 rw [cy fW _]
 have hg1:(s.heap.push {cls:= .type "list",data:= .seq ([]:List Value).toArray}).get? a=some o:=ag _ hg
 have hS₁:(s.heap.push {cls:= .type "list",data:= .seq ([]:List Value).toArray}).get? s.heap.objs.size=some {cls:= .type "list",data:= .seq ([]:List Value).toArray}:=aw _ rfl
 have h1:fF (.ref s.heap.objs.size) (.ref a)=false:=by simp [fF,bP hlt]
 have hT:gF {s with heap:=s.heap.push {cls:= .type "list",data:= .seq ([]:List Value).toArray}} (.ref a) "set":=⟨_,hg1,S.ex.1⟩
 show wpAny _ A.in1 (eL (.ref s.heap.objs.size) (.ref a) (.ref s.heap.objs.size)) _ _ _
 unfold eL
 refine aa (fv hT ?_)
 rw [if_neg (by rw [h1]; decide)]
 refine aa (CZ (s:={s with heap:=s.heap.push {cls:= .type "list",data:= .seq ([]:List Value).toArray}}) S hg1 ?_)
 refine aa (bG ?_)
 unfold vo
 have hT2:gF {s with heap:=(s.heap.push {cls:= .type "list",data:= .seq ([]:List Value).toArray}).push (ml w a ep es.size t 0)} (.ref a) "set":=⟨_,ag _ hg1,S.ex.1⟩
 refine aa (gB hT2 F.Hl ?_)
 generalize hid:("set.__len__":String)=id0
 dsimp only
 rw [show splitId id0=some ("set","__len__")from by subst hid; decide +kernel]
 subst hid
 dsimp only
 refine aa (eS (b:=true) hT2 (by rw [o4]; kernel_rfl) ?_)
 rw [if_neg (show ¬(!true)=true by decide)]
 refine dI (fun _=> ?_) fun hs=>(hs (by decide +kernel)).elim
 refine aa (fv hT2 (af ?_))
 have szl:(s.heap.push {cls:= .type "list",data:= .seq ([]:List Value).toArray}).objs.size=s.heap.objs.size+1:=cB ..
 have hne:s.heap.objs.size≠(s.heap.push {cls:= .type "list",data:= .seq ([]:List Value).toArray}).objs.size:=by rw [szl]; exact aE (fU _)
 have hIa:(s.heap.push {cls:= .type "list",data:= .seq ([]:List Value).toArray}).objs.size≠a:=by rw [szl]; exact bP (cv hlt)
 have hL2:((s.heap.push {cls:= .type "list",data:= .seq ([]:List Value).toArray}).push (ml w a ep es.size t 0)).get? s.heap.objs.size=some {cls:= .type "list",data:= .seq ([]:List Value).toArray}:=ag _ hS₁
 have hI2:((s.heap.push {cls:= .type "list",data:= .seq ([]:List Value).toArray}).push (ml w a ep es.size t 0)).get? (s.heap.push {cls:= .type "list",data:= .seq ([]:List Value).toArray}).objs.size=some (ml w a ep es.size t 0):=aw _ rfl
 have hk2: ∀b ob,s.heap.get? b=some ob->((s.heap.push {cls:= .type "list",data:= .seq ([]:List Value).toArray}).push (ml w a ep es.size t 0)).get? b=some ob:=fun b ob e=>ag _ (ag _ e)
 generalize hI0:(s.heap.push {cls:= .type "list",data:= .seq ([]:List Value).toArray}).objs.size=I0 at hne hIa hI2 szl ⊢
 generalize hH0:(s.heap.push {cls:= .type "list",data:= .seq ([]:List Value).toArray}).push (ml w a ep es.size t 0)=H0 at hL2 hI2 hk2 ⊢
 have hg0:=hk2 a o hg
 have fin: ∀(h':Heap) (c:Nat),bH s.heap.objs.size H0 h'->h'.get? s.heap.objs.size=some {cls:= .type "list",dict:=none,data:= .seq #[] c,slots:= #[]}->
   fu (model prog w) A (.builtin "list.extend.loop" ⟨[.ref s.heap.objs.size, .ref I0, .ref s.heap.objs.size], []⟩) (fun r s'=>match r with
       | t_ (Flow.ret v)=>
        wpAny (model prog w) A
         (match v with
         | ak a=>do
          let __do_lift<-load a
          match __do_lift.data with
           | wN xs epoch=>pure xs.toList
           | x=>iY "internal:collect"
         | x=>iY "internal:collect")
         Q E s'
       | t_ a=>False
       | Except.error e=>E e s') {s with heap:=h'}:=fun h' c sb hl=>by
  refine codeAny_extend_loopS ((Cf (A:=A.in1) (by simpa using hh) S hIa).toS) (by have:=S.lu; rw [eO]; omega) s.heap.objs.size (by simp only [aK,dj,or_false,not_or]; exact⟨hne,bP hlt⟩) _ es.size 0 _ #[] c (by omega) (bQ _)
   ⟨(sb.2 I0 hne.symm).trans hI2,(sb.2 a (aE hlt)).trans hg0,bQ _⟩ hl (ItemsOf.nil _) fun s' acc c' hm hS' hacc=> ?_
  dsimp only
  refine aa (wpAny_load hS' ?_)
  refine af ?_
  obtain⟨h2,g',d',tk',os'⟩:=s'
  have eg:g'=s.gens:=hm.gens
  have ed:d'=s.drawn:=hm.drawn
  have eo:os'=s.os:=hm.os
  subst eg; subst ed; subst eo
  refine hQ h2 tk' acc.toList (au hS') (fun b ob e=> ?_) ?_
  ·have hb:=au e
   refine hm.heap b ob ?_ ((sb.2 b (aE hb)).trans (hk2 b ob e))
   simp only [aK,dj,or_false,not_or]
   exact⟨aE hb,by rw [szl]; exact aE (cv hb)⟩
  ·have e:acc.toList=(lq w a ep es).toList.map (·.2):=by
    apply fy
    intro i
    rw [ax]
    by_cases hi:i < es.size
    ·have hi2:i < acc.size:=by rw [hacc.1]; exact hi
     have h1:acc[i]? =some acc[i]:=cS hi2
     obtain⟨e,he,hv⟩:=hacc.2 i _ h1
     have h3:acc.toList[i]? =some acc[i]:=by rw [bp]; exact h1
     have h4:(lq w a ep es).toList[i]? =some e:=by simpa using he
     rw [h3,h4,hv]
     rfl
    ·have h1:acc.toList[i]? =none:=bq (by rw [aj,hacc.1]; omega)
     have h2:(lq w a ep es).toList[i]? =none:=bq (by rw [aj,rK]; omega)
     rw [h1,h2]
     rfl
   rw [e]
   exact(xt w a ep es).map _
 refine dI (fun _=> ?_) fun _=> ?_
 ·refine aa (e7 ?_)
  unfold Ac
  refine aa (aa (iA hL2 rfl ?_ (by show 0<=_; omega) (by show 1<=_; rw [eO]; omega)))
  have hL3:=fm hL2 fun x=>x.push aY
  refine iA hL3 rfl ?_ (by show 1<=_; rw [eO]; omega) (by show 0<=_; omega)
  have hL4:=fm hL3 fun x=>x.pop
  exact af ⟨dz cz _,fin _ _ ((bB ..).trans (bB ..)) hL4⟩
 ·exact af ⟨dz cz _,fin _ _ (dC _ _) hL2⟩
end
end Z
namespace Z
open PySem PySem.Spec PyProof.Rows L2
def GO(X:Cx)(ρ:eT)(e:Expr)(P:D->Prop):Prop:= ∀(M0:MP) (H0:Hp) (γ:List (D×V)) (α:Nat->Addr) (σ:St) (H:Hp) (Q:VK),Rep X.K M0 H0 γ α ρ σ H->
 (∀d v H',P d->bJ H H'->Dn X.K (MM M0 ρ α) H' d v->Q v H')->tE X e σ H Q
section
variable {X:Cx}{ρ:eT}{M0:MP}{H0:Hp}{P:pM}{e a b:Expr}{d:D}{ds:List D}{pos pos' p p2 p3 p4 p5:Pos}
theorem av.toP{R:D->Prop}(h:av X ρ e d)(q:R d):GO X ρ e R:=fun M0 H0 γ α σ H Q r k=>h M0 H0 γ α σ H Q r fun v H' s x=>k d v H' q s x
def pairD(p:Int×Int):D:= .tup [.int p.1, .int p.2]
def sF(p:Int×Int):List V:= [.int p.1, .int p.2]
def wY(p:Int×Int):List Int:= [p.1,p.2]
theorem Iu{pins:List (Addr×Obj)}{σ:St}{H:Hp}{s:ah}(I:Inv X pins σ H s){b:Addr}{p:Int×Int}(h:jR X.K H b (sF p)):TK X.prog X.w s.heap (wY p) b:=by
 obtain⟨its,r,⟨o,ho,hc,n,hd⟩,_⟩:=I.tuple h
 refine⟨o,its.toArray,n,ho,hc,hd, ?_⟩
 show kW (fG X.prog X.w) [p.1,p.2] its
 cases r with
 | cons r1 r2=>
  cases r2 with
  | cons r2 r3=>
   cases r3
   obtain⟨t1,rfl⟩:=r1
   obtain⟨t2,rfl⟩:=r2
   exact .cons (intKind_is _ _ _ _) (.cons (intKind_is _ _ _ _) .nil)
theorem pairs_at{K:Frag}{M:MP}{H:Hp}: ∀{ps:List (Int×Int)} {xs:List V},cA K M H (ps.map pairD) xs-> ∃T:Nat->Addr, ∀(j:Nat) (p:Int×Int),ps[j]? =some p->xs[j]? =some (.ref (T j))/\jR K H (T j) (sF p)
 | [],_,_=>⟨fun _=>0,fun j p h=>by simp at h⟩
 | p::ps,xs,⟨v,r,e,⟨a,ys,hv,sq,y1,r1,e1,h1,y2,r2,e2,h2,e3⟩,h⟩=>by
  obtain⟨T,hT⟩:=pairs_at h
  refine⟨fun j=>match j with | 0=>a | j+1=>T j,fun j q hq=> ?_⟩
  subst e
  cases j with
  | zero=>
   have:p=q:=by simpa using hq
   subst this
   have e4:ys=sF p:=by
    rw [e1,e2,e3,show y1=V.int p.1 from h1,show y2=V.int p.2 from h2]
    rfl
   rw [e4]at sq
   exact⟨by rw [hv]; rfl,sq⟩
  | succ j=>
   obtain⟨q1,q2⟩:=hT j q (by simpa using hq)
   exact⟨by simpa using q1,q2⟩
end
end Z
namespace Z
open PySem PySem.Spec PyProof.Rows
section
variable {prog:aq}{w:World}{A:bh}{E:Value->ah->Prop}{s:ah}
theorem sk{M:Model}{a:Addr}{Q:Option Obj->ah->Prop}(h: ∀r,Q r s):wpAny M A (Cq a) Q E s:=fun _ _ _=>h _
theorem i8{it t:Addr}{i:Nat}{items:Array Value}{x:Value}{Q:Value->ah->Prop}(hit:s.heap.IsTupleIter it t i)(ht:s.heap.IsTuple t items)(hx:items[i]? =some x)
  (hQ: ∀h',h'.IsTupleIter it t (i+1)->bH it s.heap h'->Q x {s with heap:=h'}):wpAny (model prog w) A (bK (.ref it)) Q E s:=by
 obtain⟨o,ho,hc,hd⟩:=id hit
 obtain⟨ol,hol,_,nl,hdl⟩:=ht
 have hT:s.TypeIs (.ref it) "tuple_iterator":=⟨o,ho,hc⟩
 unfold bK
 refine aa (cM (name:=hJ "__next__") hT jg (bI jg hT PySem.F.entry_tuple_iterator_next ?_ (PySem.F.args_tuple_iterator_next_1 _)))
 show wpAny _ _ (field (.ref it) 0 >>=_) _ _ s
 refine aa (bz ho hd (x:= .ref t) rfl ?_)
 show wpAny _ _ (if(ak t==aY)=true then _ else _) _ _ s
 rw [if_neg (show ¬((ak t==aY)=true)from aA)]
 show wpAny _ _ (field (.ref it) 1 >>=_) _ _ s
 refine aa (bz ho hd (x:= .int i 0) rfl ?_)
 show wpAny _ _ (seqItems? (.ref t) >>=_) _ _ s
 refine aa (dA hol hdl ?_)
 simp only [cJ,hx]
 refine aa (cX ho hd (by simp) (af ⟨x,rfl,af (hQ _ ?_ (bB ..))⟩))
 exact⟨_,cT _ ho (ju (gu hd _)),(Obj.cls_mapFields ..).trans hc,by rw [gu hd]; simp [d_]⟩
theorem iF{it t:Addr}{i:Nat}{items:Array Value}{Q:Value->ah->Prop}(hh:A.handled=none)(hit:s.heap.IsTupleIter it t i)(ht:s.heap.IsTuple t items)(hx:items[i]? =none)
  (hE: ∀h' e,Co it s.heap h'->(∃o,h'.get? e=some o/\o.cls= .type "StopIteration")->E (.ref e) {s with heap:=h'}):wpAny (model prog w) A (bK (.ref it)) Q E s:=by
 obtain⟨o,ho,hc,hd⟩:=id hit
 obtain⟨ol,hol,_,nl,hdl⟩:=ht
 have hT:s.TypeIs (.ref it) "tuple_iterator":=⟨o,ho,hc⟩
 unfold bK
 refine aa (cM (name:=hJ "__next__") hT jg (bI jg hT PySem.F.entry_tuple_iterator_next ?_ (PySem.F.args_tuple_iterator_next_1 _)))
 show wpAny _ _ (field (.ref it) 0 >>=_) _ _ s
 refine aa (bz ho hd (x:= .ref t) rfl ?_)
 show wpAny _ _ (if(ak t==aY)=true then _ else _) _ _ s
 rw [if_neg (show ¬((ak t==aY)=true)from aA)]
 show wpAny _ _ (field (.ref it) 1 >>=_) _ _ s
 refine aa (bz ho hd (x:= .int i 0) rfl ?_)
 show wpAny _ _ (seqItems? (.ref t) >>=_) _ _ s
 refine aa (dA hol hdl ?_)
 simp only [cJ,hx]
 refine aa (e7 (aa (cX ho hd (by simp) ?_)))
 show wpAny _ _ (t9 (.type "StopIteration") [] >>=_) _ _ _
 refine aa ?_
 simp only [t9,newTuple]
 refine aa (bb ?_ (by size_fits))
 refine aa (m:=gX _ _) (uf (a:=aY) (by first | rfl | (simp only [gX]; rfl)) ?_)
 refine bb ?_ (by size_fits)
 simp only [raiseNew]
 refine aa (yP ?_)
 rw [show A.in1.handled=none from hh]
 refine aa (af (Cp ?_))
 exact hE _ _ (((bB ..).extBut.push _).push _) ⟨_,aw _ rfl,rfl⟩
def pH(h:Heap)(z TI TO i1 i2:Addr):Prop:=(∃f0 f1,h.get? z=some {cls:= .type "zip",dict:=none,data:= .fields #[f0, .bool f1, .bool false, .ref TI, .ref TO],slots:= #[]}/\(f0= .none\/ ∃T:Nat,f0=d_ T))/\kX h TI (.ref i1) (.ref i2)/\ ∃a b,kX h TO a b
structure Kh(z TI TO i1 i2:Addr):Prop where
 TIz:TI≠z
 TOz:TO≠z
 i1z:i1≠z
 i2z:i2≠z
 TITO:TI≠TO
 TIi1:TI≠i1
 TIi2:TI≠i2
 TOi1:TO≠i1
 TOi2:TO≠i2
 i12:i1≠i2
theorem Ba{z TI TO i1 i2 t1 t2:Addr}{k:Nat}{xs ys:Array Value}{x y:Value}{Q:Value->ah->Prop}(D:Kh z TI TO i1 i2)(D1:t1≠z/\t1≠TO/\t1≠i1/\t1≠i2)(D2:t2≠z/\t2≠TO/\t2≠i1/\t2≠i2)(hZ:pH s.heap z TI TO i1 i2)
  (h1:s.heap.IsTupleIter i1 t1 k)(h2:s.heap.IsTupleIter i2 t2 k)(ht1:s.heap.IsTuple t1 xs)(ht2:s.heap.IsTuple t2 ys)(hx:xs[k]? =some x)(hy:ys[k]? =some y)
  (hQ: ∀h',pH h' z TI TO i1 i2->h'.IsTupleIter i1 t1 (k+1)->h'.IsTupleIter i2 t2 (k+1)->kX h' s.heap.objs.size x y->
   (∀c o,c≠z->c≠TO->c≠i1->c≠i2->s.heap.get? c=some o->h'.get? c=some o)->Q (.ref s.heap.objs.size) {s with heap:=h'}):
  wpAny (model prog w) A (c6.«zip.__next__» ⟨[.ref z], []⟩) (fun fin s'=> ∃v,fin= .done (.ret v)/\Q v s') E s:=by
 obtain⟨⟨f0,f1,hz,hf0⟩,hTI,a,b,hTO⟩:=hZ
 have eb: ∀{h h':Heap} {c t:Addr} {j:Nat} {d:Addr},h.IsTupleIter c t j->bH d h h'->c≠d->h'.IsTupleIter c t j:=fun{h h' c t j d} ⟨o,e,r⟩ sb n=>⟨o,(sb.2 c n).trans e,r⟩
 have et: ∀{h h':Heap} {t:Addr} {is:Array Value} {d:Addr},h.IsTuple t is->bH d h h'->t≠d->h'.IsTuple t is:=fun{h h' t is d} ⟨o,e,r⟩ sb n=>⟨o,(sb.2 t n).trans e,r⟩
 have free:wpAny (model prog w) A (cY (.ref z)) (fun fr s1=> ∃h' f1',s1={s with heap:=h'}/\bH z s.heap h'/\h'.get? z=some {cls:= .type "zip",dict:=none,data:= .fields #[f0, .bool f1', .bool false, .ref TI, .ref TO],slots:= #[]}) E s:=by
  unfold cY
  have es:s={s with heap:=s.heap}:=by cases s; rfl
  rcases hf0 with rfl | ⟨T,rfl⟩
  ·exact aa (bz hz rfl (x:= .none) rfl (af ⟨s.heap,f1,es,dC _ _,hz⟩))
  ·refine aa (bz hz rfl (x:=d_ T) rfl ?_)
   show wpAny _ _ (do
    if(<-Cq (T:Int).toNat).isNone then return true
    if(<-field (.ref z) 1) != .bool true then gW (.ref z) 1 (.bool true)
    return false) _ _ _
   refine aa (sk fun r=> ?_)
   cases r with
   | none=>
    simp only [Option.isNone_none,if_true]
    exact af ⟨s.heap,f1,es,dC _ _,hz⟩
   | some ob=>
    simp only [Option.isNone_some,a_,if_false]
    refine aa (bz hz rfl (x:= .bool f1) rfl ?_)
    refine dI (fun _=> ?_) fun _=>af ⟨s.heap,f1,es,dC _ _,hz⟩
    exact aa (bV hz (by simp) fun h₁ hz₁ hs₁=>af ⟨h₁,true,rfl,hs₁,hz₁⟩)
 show wpAny _ _ (field (.ref z) 2 >>=_) _ _ _
 refine aa (bz hz rfl (x:= .bool false) rfl ?_)
 show wpAny _ _ (field (.ref z) 3 >>=_) _ _ _
 refine aa (bz hz rfl (x:= .ref TI) rfl ?_)
 refine aa (dA hTI rfl ?_)
 show wpAny _ _ (cY (.ref z) >>=_) _ _ _
 refine aa (bN free (fun fr s1 hfr=> ?_) fun _ _ x=>x)
 obtain⟨h₀,f1',rfl,hs₀,hz₀⟩:=hfr
 have hTO₀:kX h₀ TO a b:=(hs₀.2 _ D.TOz).trans hTO
 have h1₀:=eb h1 hs₀ D.i1z
 have h2₀:=eb h2 hs₀ D.i2z
 have ht1₀:=et ht1 hs₀ D1.1
 have ht2₀:=et ht2 hs₀ D2.1
 have hTI₀:kX h₀ TI (.ref i1) (.ref i2):=(hs₀.2 _ D.TIz).trans hTI
 have hsz₀:h₀.objs.size=s.heap.objs.size:=hs₀.1
 cases fr with
 | true=>
  simp only [if_true]
  refine aa (e7 ?_)
  refine aa (bz hz₀ rfl (x:= .ref TO) rfl ?_)
  refine aa (bV hz₀ (by simp) fun h₁ hz₁ hs₁=> ?_)
  refine aa ?_
  simp only [Ig,List.zipIdx_nil,cP,fV]
  refine aa (aa (yQ ?_))
  show wpAny _ _ (bK (.ref i1) >>=_) _ _ _
  refine aa (i8 (eb h1₀ hs₁ D.i1z) (et ht1₀ hs₁ D1.1) hx fun h₂ h1₂ hs₂=>af ?_)
  have hTO₂:kX h₂ TO a b:=(hs₂.2 _ D.TOi1).trans ((hs₁.2 _ D.TOz).trans hTO₀)
  refine aa (dA hTO₂ rfl ?_)
  refine aa (Cr hTO₂ fun h₃ hTO₃ hs₃=> ?_)
  replace hTO₃:kX h₃ TO x b:=hTO₃
  refine aa (Cs (af ?_))
  refine aa (aa (yQ ?_))
  show wpAny _ _ (bK (.ref i2) >>=_) _ _ _
  refine aa (i8 (eb (eb (eb h2₀ hs₁ D.i2z) hs₂ D.i12.symm) hs₃ D.TOi2.symm) (et (et (et ht2₀ hs₁ D2.1) hs₂ D2.2.2.1) hs₃ D2.2.1) hy fun h₄ h2₄ hs₄=>af ?_)
  have hTO₄:kX h₄ TO x b:=(hs₄.2 _ D.TOi2).trans hTO₃
  refine aa (dA hTO₄ rfl ?_)
  refine aa (Cr hTO₄ fun h₅ hTO₅ hs₅=> ?_)
  replace hTO₅:kX h₅ TO x y:=hTO₅
  refine aa (Cs (af (af ?_)))
  refine aa (dA hTO₅ rfl ?_)
  refine aa (wV ?_)
  have hsz:h₅.objs.size=s.heap.objs.size:=by rw [hs₅.1,hs₄.1,hs₃.1,hs₂.1,hs₁.1,hsz₀]
  have k05: ∀c,c≠z->c≠TO->c≠i1->c≠i2->h₅.get? c=s.heap.get? c:=fun c c1 c2 c3 c4=>by
   rw [hs₅.2 c c2,hs₄.2 c c4,hs₃.2 c c2,hs₂.2 c c3,hs₁.2 c c1,hs₀.2 c c1]
  have hz₅:h₅.get? z=h₁.get? z:=by rw [hs₅.2 z D.TOz.symm,hs₄.2 z D.i2z.symm,hs₃.2 z D.TOz.symm,hs₂.2 z D.i1z.symm]
  rw [hz₁]at hz₅
  have h1₅:h₅.IsTupleIter i1 t1 (k+1):=eb (eb (eb h1₂ hs₃ D.TOi1.symm) hs₄ D.i12) hs₅ D.TOi1.symm
  have h2₅:h₅.IsTupleIter i2 t2 (k+1):=eb h2₄ hs₅ D.TOi2.symm
  show wpAny _ _ (Builtin.SmallTypes.ownedTupleHandOut (.ref z) (.ref h₅.objs.size) >>=_) _ _ _
  refine aa ?_
  unfold Builtin.SmallTypes.ownedTupleHandOut
  have hz₆:(h₅.push {cls:= .type "tuple",data:= .seq #[x,y]}).get? z=_:=ag _ hz₅
  refine aa (bV hz₆ (by simp) fun h₇ hz₇ hs₇=> ?_)
  refine bV hz₇ (by simp) fun h₈ hz₈ hs₈=> ?_
  have up: ∀c o,c≠z->h₅.get? c=some o->h₈.get? c=some o:=fun c o c1 e=>(hs₈.2 c c1).trans ((hs₇.2 c c1).trans (ag _ e))
  have hzlt:z < h₅.objs.size:=au hz₅
  have hT₈:kX h₈ h₅.objs.size x y:=(hs₈.2 _ (bP hzlt)).trans ((hs₇.2 _ (bP hzlt)).trans (aw _ rfl))
  refine af ⟨_,rfl, ?_⟩
  show Q (.ref h₅.objs.size) _
  rw [hsz]at hT₈ ⊢
  refine hQ h₈ ⟨⟨_,_,hz₈, .inr ⟨h₅.objs.size,rfl⟩⟩,up _ _ D.TIz ((k05 TI D.TIz D.TITO D.TIi1 D.TIi2).trans hTI),x,y,up _ _ D.TOz hTO₅⟩ ?_ ?_ hT₈ fun c o c1 c2 c3 c4 e=>up c o c1 ((k05 c c1 c2 c3 c4).trans e)
  ·obtain⟨o,e,r⟩:=h1₅; exact⟨o,up _ _ D.i1z e,r⟩
  ·obtain⟨o,e,r⟩:=h2₅; exact⟨o,up _ _ D.i2z e,r⟩
 | false=>
  simp only [a_,if_false]
  rw [<-gr]
  refine aa ?_
  show wpAny _ _ (forIn [ak i1,ak i2] _ _) _ _ _
  simp only [cP,fV]
  refine aa (aa (bG ?_))
  show wpAny _ _ (bK (.ref i1) >>=_) _ _ _
  refine aa (i8 h1₀ ht1₀ hx fun h₂ h1₂ hs₂=>af (af ?_))
  refine aa (aa (bG ?_))
  show wpAny _ _ (bK (.ref i2) >>=_) _ _ _
  refine aa (i8 (eb h2₀ hs₂ D.i12.symm) (et ht2₀ hs₂ D2.2.2.1) hy fun h₄ h2₄ hs₄=>af (af (af ?_)))
  dsimp only
  refine aa (wV (af ⟨_,rfl, ?_⟩) (by show 2<=sizeLine; decide))
  have hsz:h₄.objs.size=s.heap.objs.size:=by rw [hs₄.1,hs₂.1,hsz₀]
  show Q (.ref h₄.objs.size) {s with heap:=h₄.push {cls:= .type "tuple",data:= .seq #[x,y]}}
  have hT:kX (h₄.push {cls:= .type "tuple",data:= .seq #[x,y]}) h₄.objs.size x y:=aw _ rfl
  have up: ∀c,c≠z->c≠i1->c≠i2-> ∀o,s.heap.get? c=some o->(h₄.push {cls:= .type "tuple",data:= .seq #[x,y]}).get? c=some o:=fun c c1 c2 c3 o e=>ag _ ((hs₄.2 c c3).trans ((hs₂.2 c c2).trans ((hs₀.2 c c1).trans e)))
  have hz₄:h₄.get? z=h₀.get? z:=by rw [hs₄.2 z D.i2z.symm,hs₂.2 z D.i1z.symm]
  rw [hz₀]at hz₄
  rw [hsz]at hT ⊢
  refine hQ _ ⟨⟨_,_,ag _ hz₄,hf0⟩,up _ D.TIz D.TIi1 D.TIi2 _ hTI,a,b,up _ D.TOz D.TOi1 D.TOi2 _ hTO⟩ ?_ ?_ hT fun c o c1 _ c3 c4 e=>up c c1 c3 c4 o e
  ·obtain⟨o,e,r⟩:=eb h1₂ hs₄ D.i12; exact⟨o,ag _ e,r⟩
  ·obtain⟨o,e,r⟩:=h2₄; exact⟨o,ag _ e,r⟩
theorem Dk{z TI TO i1 i2 t1 t2:Addr}{k:Nat}{xs ys:Array Value}{Q:Fin->ah->Prop}(hh:A.handled=none)(D:Kh z TI TO i1 i2)(D1:t1≠z/\t1≠TO/\t1≠i1/\t1≠i2)(D2:t2≠z/\t2≠TO/\t2≠i1/\t2≠i2)(hZ:pH s.heap z TI TO i1 i2)
  (h1:s.heap.IsTupleIter i1 t1 k)(h2:s.heap.IsTupleIter i2 t2 k)(ht1:s.heap.IsTuple t1 xs)(ht2:s.heap.IsTuple t2 ys)(hend:xs[k]? =none\/ys[k]? =none)
  (hE: ∀h' e,(∀c o,c≠z->c≠TO->c≠i1->c≠i2->s.heap.get? c=some o->h'.get? c=some o)->(∃o,h'.get? e=some o/\o.cls= .type "StopIteration")->E (.ref e) {s with heap:=h'}):
  wpAny (model prog w) A (c6.«zip.__next__» ⟨[.ref z], []⟩) Q E s:=by
 obtain⟨⟨f0,f1,hz,hf0⟩,hTI,a,b,hTO⟩:=hZ
 have eb: ∀{h h':Heap} {c t:Addr} {j:Nat} {d:Addr},h.IsTupleIter c t j->bH d h h'->c≠d->h'.IsTupleIter c t j:=fun{h h' c t j d} ⟨o,e,r⟩ sb n=>⟨o,(sb.2 c n).trans e,r⟩
 have et: ∀{h h':Heap} {t:Addr} {is:Array Value} {d:Addr},h.IsTuple t is->bH d h h'->t≠d->h'.IsTuple t is:=fun{h h' t is d} ⟨o,e,r⟩ sb n=>⟨o,(sb.2 t n).trans e,r⟩
 have free:wpAny (model prog w) A (cY (.ref z)) (fun fr s1=> ∃h' f1',s1={s with heap:=h'}/\bH z s.heap h'/\h'.get? z=some {cls:= .type "zip",dict:=none,data:= .fields #[f0, .bool f1', .bool false, .ref TI, .ref TO],slots:= #[]}) E s:=by
  unfold cY
  have es:s={s with heap:=s.heap}:=by cases s; rfl
  rcases hf0 with rfl | ⟨T,rfl⟩
  ·exact aa (bz hz rfl (x:= .none) rfl (af ⟨s.heap,f1,es,dC _ _,hz⟩))
  ·refine aa (bz hz rfl (x:=d_ T) rfl ?_)
   show wpAny _ _ (do
    if(<-Cq (T:Int).toNat).isNone then return true
    if(<-field (.ref z) 1) != .bool true then gW (.ref z) 1 (.bool true)
    return false) _ _ _
   refine aa (sk fun r=> ?_)
   cases r with
   | none=>
    simp only [Option.isNone_none,if_true]
    exact af ⟨s.heap,f1,es,dC _ _,hz⟩
   | some ob=>
    simp only [Option.isNone_some,a_,if_false]
    refine aa (bz hz rfl (x:= .bool f1) rfl ?_)
    refine dI (fun _=> ?_) fun _=>af ⟨s.heap,f1,es,dC _ _,hz⟩
    exact aa (bV hz (by simp) fun h₁ hz₁ hs₁=>af ⟨h₁,true,rfl,hs₁,hz₁⟩)
 show wpAny _ _ (field (.ref z) 2 >>=_) _ _ _
 refine aa (bz hz rfl (x:= .bool false) rfl ?_)
 show wpAny _ _ (field (.ref z) 3 >>=_) _ _ _
 refine aa (bz hz rfl (x:= .ref TI) rfl ?_)
 refine aa (dA hTI rfl ?_)
 show wpAny _ _ (cY (.ref z) >>=_) _ _ _
 refine aa (bN free (fun fr s1 hfr=> ?_) fun _ _ x=>x)
 obtain⟨h₀,f1',rfl,hs₀,hz₀⟩:=hfr
 have hTO₀:kX h₀ TO a b:=(hs₀.2 _ D.TOz).trans hTO
 have h1₀:=eb h1 hs₀ D.i1z
 have h2₀:=eb h2 hs₀ D.i2z
 have ht1₀:=et ht1 hs₀ D1.1
 have ht2₀:=et ht2 hs₀ D2.1
 cases fr with
 | true=>
  simp only [if_true]
  refine aa (e7 ?_)
  refine aa (bz hz₀ rfl (x:= .ref TO) rfl ?_)
  refine aa (bV hz₀ (by simp) fun h₁ hz₁ hs₁=> ?_)
  refine aa ?_
  simp only [Ig,List.zipIdx_nil,cP,fV]
  refine aa (aa (yQ ?_))
  show wpAny _ _ (bK (.ref i1) >>=_) _ _ _
  cases hx:xs[k]? with
  | none=>
   refine aa (iF hh (eb h1₀ hs₁ D.i1z) (et ht1₀ hs₁ D1.1) hx fun h₂ e hs₂ he=> ?_)
   obtain⟨oe,hoe,hce⟩:=he
   have hz₂:=hs₂ _ _ D.i1z.symm hz₁
   have hez:e≠z:=fun x=>by subst x; rw [hz₂]at hoe; cases hoe; simp at hce
   refine bV hz₂ (by simp) fun h₃ _ hs₃=>hE h₃ e (fun c o c1 _ c3 _ x=>(hs₃.2 c c1).trans (hs₂ _ _ c3 ((hs₁.2 c c1).trans ((hs₀.2 c c1).trans x)))) ⟨oe,(hs₃.2 _ hez).trans hoe,hce⟩
  | some x=>
   have hy:ys[k]? =none:=by rcases hend with h | h; rw [hx]at h; cases h; exact h
   refine aa (i8 (eb h1₀ hs₁ D.i1z) (et ht1₀ hs₁ D1.1) hx fun h₂ h1₂ hs₂=>af ?_)
   have hTO₂:kX h₂ TO a b:=(hs₂.2 _ D.TOi1).trans ((hs₁.2 _ D.TOz).trans hTO₀)
   refine aa (dA hTO₂ rfl ?_)
   refine aa (Cr hTO₂ fun h₃ hTO₃ hs₃=> ?_)
   refine aa (Cs (af ?_))
   refine aa (aa (yQ ?_))
   show wpAny _ _ (bK (.ref i2) >>=_) _ _ _
   refine aa (iF hh (eb (eb (eb h2₀ hs₁ D.i2z) hs₂ D.i12.symm) hs₃ D.TOi2.symm) (et (et (et ht2₀ hs₁ D2.1) hs₂ D2.2.2.1) hs₃ D2.2.1) hy fun h₄ e hs₄ he=> ?_)
   obtain⟨oe,hoe,hce⟩:=he
   have hz₃:h₃.get? z=h₁.get? z:=by rw [hs₃.2 z D.TOz.symm,hs₂.2 z D.i1z.symm]
   rw [hz₁]at hz₃
   have hz₄:=hs₄ _ _ D.i2z.symm hz₃
   have hez:e≠z:=fun x=>by subst x; rw [hz₄]at hoe; cases hoe; simp at hce
   refine bV hz₄ (by simp) fun h₅ _ hs₅=>hE h₅ e (fun c o c1 c2 c3 c4 x=>(hs₅.2 c c1).trans (hs₄ _ _ c4 ((hs₃.2 c c2).trans ((hs₂.2 c c3).trans ((hs₁.2 c c1).trans ((hs₀.2 c c1).trans x)))))) ⟨oe,(hs₅.2 _ hez).trans hoe,hce⟩
 | false=>
  simp only [a_,if_false]
  rw [<-gr]
  refine aa ?_
  show wpAny _ _ (forIn [ak i1,ak i2] _ _) _ _ _
  simp only [cP,fV]
  refine aa (aa (bG ?_))
  show wpAny _ _ (bK (.ref i1) >>=_) _ _ _
  cases hx:xs[k]? with
  | none=>exact aa (iF hh h1₀ ht1₀ hx fun h₂ e hs₂ he=>hE h₂ e (fun c o c1 _ c3 _ x=>hs₂ _ _ c3 ((hs₀.2 c c1).trans x)) he)
  | some x=>
   have hy:ys[k]? =none:=by rcases hend with h | h; rw [hx]at h; cases h; exact h
   refine aa (i8 h1₀ ht1₀ hx fun h₂ h1₂ hs₂=>af (af ?_))
   refine aa (aa (bG ?_))
   show wpAny _ _ (bK (.ref i2) >>=_) _ _ _
   exact aa (iF hh (eb h2₀ hs₂ D.i12.symm) (et ht2₀ hs₂ D2.2.2.1) hy fun h₄ e hs₄ he=>hE h₄ e (fun c o c1 _ c3 c4 x=>hs₄ _ _ c4 ((hs₂.2 c c3).trans ((hs₀.2 c c1).trans x))) he)
abbrev Ln(h:Heap)(t1:Addr):Heap:=h.push {cls:= .type "tuple_iterator",data:= .fields #[.ref t1, .int 0 0]}
abbrev Lu(h:Heap)(t1 t2:Addr):Heap:=(Ln h t1).push {cls:= .type "tuple_iterator",data:= .fields #[.ref t2, .int 0 0]}
abbrev Lw(h:Heap)(t1 t2:Addr):Heap:=(Lu h t1 t2).push {cls:= .type "tuple",data:= .seq #[.ref h.objs.size, .ref (Ln h t1).objs.size]}
abbrev Lv(h:Heap)(t1 t2:Addr):Heap:=(Lw h t1 t2).push {cls:= .type "tuple",data:= .seq #[.none, .none]}
abbrev Kk(h:Heap)(t1 t2:Addr):Heap:=(Lv h t1 t2).push {cls:= .type "zip",data:= .fields #[.none, .bool false, .bool false, .ref (Lu h t1 t2).objs.size, .ref (Lw h t1 t2).objs.size]}
theorem zT(t1 t2:Addr)(xs ys:Array Value):
  Meets (c6.«zip.__new__» ⟨[.type "zip", .ref t1, .ref t2], []⟩) (fun _ R s=>s.heap.IsTuple t1 xs/\s.heap.IsTuple t2 ys/\R (.ok (.ret (.ref (Lv s.heap t1 t2).objs.size))) {s with heap:=Kk s.heap t1 t2}):=
 .of_wp fun prog w A R s h=>by
  obtain⟨hp,g,d,tk,os⟩:=s; obtain⟨hl1,hl2,h⟩:=h
  have hsub:=sub_zip
  have hL1:Heap.IsTuple (Ct ⟨hp,g,d,tk,os⟩) t1 xs:=hl1
  have hL2:Heap.IsTuple (Ct ⟨hp.push {cls:= .type "tuple_iterator",data:= .fields #[.ref t1, .int 0 0]},g,d,tk,os⟩) t2 ys:=by
   obtain⟨o,e,r⟩:=hl2; exact⟨o,ag _ e,r⟩
  wp_walk using FV hL1,FV hL2
  exact⟨_,rfl,h⟩
theorem BS{t1 t2:Addr}{xs ys:Array Value}{Q:Value->ah->Prop}(hl1:s.heap.IsTuple t1 xs)(hl2:s.heap.IsTuple t2 ys)
  (h: ∀h',pH h' (s.heap.objs.size+4) (s.heap.objs.size+2) (s.heap.objs.size+3) s.heap.objs.size (s.heap.objs.size+1)->h'.IsTupleIter s.heap.objs.size t1 0->h'.IsTupleIter (s.heap.objs.size+1) t2 0->
   (∀c o,s.heap.get? c=some o->h'.get? c=some o)->Q (.ref (s.heap.objs.size+4)) {s with heap:=h'}):
  wpAny (model prog w) A (call (.type "zip") [.ref t1, .ref t2]) Q E s:=by
 refine callType_new PySem.F.called_zip (by decide) (PySem.F.typeCall_zip_2 _ _) (PySem.F.newCall_zip_2 _ _) (fun obj=>PySem.F.args_object_init_3 obj _ _) PySem.F.entry_zip_new (zT t1 t2 xs ys) ⟨hl1,hl2, ?_⟩
 have z1:(Ln s.heap t1).objs.size=s.heap.objs.size+1:=cB ..
 have z2:(Lu s.heap t1 t2).objs.size=s.heap.objs.size+2:=by rw [cB,z1]
 have z3:(Lw s.heap t1 t2).objs.size=s.heap.objs.size+3:=by rw [cB,z2]
 have z4:(Lv s.heap t1 t2).objs.size=s.heap.objs.size+4:=by rw [cB,z3]
 have g5:(Kk s.heap t1 t2).get? (Lv s.heap t1 t2).objs.size=some _:=aw _ rfl
 have g4:(Kk s.heap t1 t2).get? (Lw s.heap t1 t2).objs.size=some _:=ag _ (aw _ rfl)
 have g3:(Kk s.heap t1 t2).get? (Lu s.heap t1 t2).objs.size=some _:=ag _ (ag _ (aw _ rfl))
 have g2:(Kk s.heap t1 t2).get? (Ln s.heap t1).objs.size=some _:=ag _ (ag _ (ag _ (aw _ rfl)))
 have g1:(Kk s.heap t1 t2).get? s.heap.objs.size=some _:=ag _ (ag _ (ag _ (ag _ (aw _ rfl))))
 show _/\_
 rw [z2,z3,z4]at g5
 rw [z1,z2]at g3
 rw [z3]at g4
 rw [z1]at g2
 rw [z4]
 exact⟨⟨_,g5,rfl⟩,h _ ⟨⟨_,_,g5, .inl rfl⟩,g3,_,_,g4⟩ ⟨_,g1,rfl,rfl⟩ ⟨_,g2,rfl,rfl⟩ fun c o x=>ag _ (ag _ (ag _ (ag _ (ag _ x))))⟩
end
end Z
namespace Z
open PySem PySem.Spec PyProof.Rows L2
section
variable {X:Cx}{pins:List (Addr×Obj)}{σ:St}{H H':Hp}{s:ah}{h':Heap}{fp:List Addr}
theorem xX{t':Nat}(I:Inv X pins σ H s)(hf: ∀b∈fp,jF X pins H b)(k: ∀b u,b∉fp->s.heap.get? b=some u->h'.get? b=some u)(hs:bJ H H')(hn: ∀b o,s.heap.get? b=some o->H b=none->H' b=none)
  (dO:n_ X.prog X.w H' h'):Inv X pins σ H' {s with heap:=h',toks:=t'}:=by
 refine I.step (g':=s.gens) (d':=s.drawn) (ch:=fp) (fun b hb=> ?_) (fun b o _ _ hc e _=>k b o hc e) (fun b o _ _ hc e _=>⟨o.slots,k b o hc e⟩) (fun b o _ e n=>hn b o e n)
  (fun b o hc e=>⟨o,k b o hc e⟩) (fun b xs e=>hs b _ e) (fun b o u e=>hs b _ e) (fun b ps e=>⟨#[],by rw [hs b _ e]; simp⟩) (fun m hm=> ?_) dO I.bare
 ·obtain⟨f0,f1,f2,f3,f4,f5⟩:=hf b hb
  exact⟨f3,f1,f4,f5⟩
 ·obtain⟨o,es,ep,ho,r⟩:=hm
  exact⟨o,es,ep,k _ o (fun z=>(hf _ z).2.1 rfl) ho,r⟩
theorem C_(I:Inv X pins σ H s)(hf: ∀b∈fp,jF X pins H b)(k: ∀b u,b∉fp->s.heap.get? b=some u->h'.get? b=some u):n_ X.prog X.w H h':=fun b u e=>by
 have nf: ∀c v,H c=some v->c∉fp:=fun c v e z=>by rw [(hf c z).1]at e; cases e
 refine(I.dO b u e).stay (fun c v hc q=>k c v ?_ q) (fun _ q=>q) fun _ _ q=>q
 rcases hc with z | z
 ·rw [z]; exact nf b u e
 ·exact nf c _ z
theorem DG{T:Addr}{o:HO}(I:Inv X pins σ H s)(hf: ∀b∈fp,jF X pins H b)(k: ∀b u,b∉fp->s.heap.get? b=some u->h'.get? b=some u)(hT:H T=none)(new:fC X.prog X.w (upd H T o) h' T o):n_ X.prog X.w (upd H T o) h':=fun b u e=>by
 by_cases hb:b=T
 ·subst hb
  rw [bC]at e; cases e
  exact new
 ·rw [ck hb]at e
  have nf: ∀c v,H c=some v->c∉fp:=fun c v e z=>by rw [(hf c z).1]at e; cases e
  refine(I.dO b u e).stay (fun c v hc q=>k c v ?_ q) (fun c q=>bt hT c _ q) fun c _ q=>bt hT c _ q
  rcases hc with z | z
  ·rw [z]; exact nf b u e
  ·exact nf c _ z
theorem wz{a b:Addr}{xs:List V}(I:Inv X pins σ H s)(hf:jF X pins H b)(h:jR X.K H a xs):a≠b:=fun e=>by
 subst e
 rcases h with(h | ⟨o,h⟩) | ⟨o,its,n,hk,_⟩
 ·rw [hf.1]at h; cases h
 ·rw [hf.1]at h; cases h
 ·have hb:=I.ok.mod.vc a o hk
  rcases hf.2.2.2.1 with z | z
  ·exact I.ok.pZ a o hb z
  ·exact absurd (aX (au hb) (bu I.ok.wX z)) (dS _)
end
def MZ(K:Frag)(t1 t2:Addr):It:=
  ⟨fun i H=> ∃xs ys x y,jR K H t1 xs/\jR K H t2 ys/\xs[i]? =some x/\ys[i]? =some y,
   fun i H v H'=> ∃T x y,v= .ref T/\H T=none/\H'=upd H T (.tup [x,y])/\(∀xs,jR K H t1 xs->xs[i]? =some x)/\ ∀ys,jR K H t2 ys->ys[i]? =some y,
   fun i H=> ∃xs ys,jR K H t1 xs/\jR K H t2 ys/\(xs.length<=i\/ys.length<=i)⟩
section
variable {prog:aq}{w:World}{A:bh}{E:Value->ah->Prop}{s:ah}
theorem xv{z TI TO i1 i2 t1 t2:Addr}{k:Nat}{xs ys:Array Value}{x y:Value}{Q:Option Value->ah->Prop}(D:Kh z TI TO i1 i2)(D1:t1≠z/\t1≠TO/\t1≠i1/\t1≠i2)(D2:t2≠z/\t2≠TO/\t2≠i1/\t2≠i2)(hZ:pH s.heap z TI TO i1 i2)
  (h1:s.heap.IsTupleIter i1 t1 k)(h2:s.heap.IsTupleIter i2 t2 k)(ht1:s.heap.IsTuple t1 xs)(ht2:s.heap.IsTuple t2 ys)(hx:xs[k]? =some x)(hy:ys[k]? =some y)
  (hQ: ∀h',pH h' z TI TO i1 i2->h'.IsTupleIter i1 t1 (k+1)->h'.IsTupleIter i2 t2 (k+1)->kX h' s.heap.objs.size x y->
   (∀c o,c≠z->c≠TO->c≠i1->c≠i2->s.heap.get? c=some o->h'.get? c=some o)->Q (some (.ref s.heap.objs.size)) {s with heap:=h'}):wpAny (model prog w) A (iS (.ref z)) Q E s:=by
 obtain⟨⟨f0,f1,hz,_⟩,_⟩:=id hZ
 have hT:s.TypeIs (.ref z) "zip":=⟨_,hz,rfl⟩
 unfold iS
 exact aa (mf (cM (name:=hJ "__next__") hT nS
  (bI nS hT F.entry_zip_next (Ba D D1 D2 hZ h1 h2 ht1 ht2 hx hy fun h' a1 a2 a3 a4 a5=>af (hQ h' a1 a2 a3 a4 a5)) (F.args_zip_next_1 _))))
theorem qH{z TI TO i1 i2 t1 t2:Addr}{k:Nat}{xs ys:Array Value}{Q:Option Value->ah->Prop}(hh:A.handled=none)(D:Kh z TI TO i1 i2)(D1:t1≠z/\t1≠TO/\t1≠i1/\t1≠i2)(D2:t2≠z/\t2≠TO/\t2≠i1/\t2≠i2)(hZ:pH s.heap z TI TO i1 i2)
  (h1:s.heap.IsTupleIter i1 t1 k)(h2:s.heap.IsTupleIter i2 t2 k)(ht1:s.heap.IsTuple t1 xs)(ht2:s.heap.IsTuple t2 ys)(hend:xs[k]? =none\/ys[k]? =none)
  (hQ: ∀h',(∀c o,c≠z->c≠TO->c≠i1->c≠i2->s.heap.get? c=some o->h'.get? c=some o)->Q none {s with heap:=h'}):wpAny (model prog w) A (iS (.ref z)) Q E s:=by
 obtain⟨⟨f0,f1,hz,_⟩,_⟩:=id hZ
 have hT:s.TypeIs (.ref z) "zip":=⟨_,hz,rfl⟩
 unfold iS
 refine aa (mf (cM (name:=hJ "__next__") hT nS
  (bI nS hT F.entry_zip_next (Dk hh D D1 D2 hZ h1 h2 ht1 ht2 hend fun h' e hk he=> ?_) (F.args_zip_next_1 _))))
 obtain⟨o,ho,hc⟩:=he
 refine aa (eS (T:="StopIteration") (b:=true) ⟨o,ho,hc⟩ wU ?_)
 exact af (hQ _ hk)
theorem qA{z TI TO i1 i2:Addr}{Q:Value->ah->Prop}(hZ:pH s.heap z TI TO i1 i2)(h:Q (.ref z) s):wpAny (model prog w) A (tV (.ref z)) Q E s:=by
 obtain⟨⟨f0,f1,hz,_⟩,_⟩:=id hZ
 have hT:s.TypeIs (.ref z) "zip":=⟨_,hz,rfl⟩
 refine jf hT F.slot_zip_iter (bI F.slot_zip_iter hT F.entry_zip_iter ?_ (F.args_zip_iter_1 _))
 show wpAny _ _ (ret (.ref z)) _ _ s
 exact af ⟨_,rfl,"zip",_,hT,nS.lookup,h⟩
end
theorem Dc{P:aq}{w:World}{K:Frag}{x:Str}{px:Pos}{z TI TO i1 i2 t1 t2:Addr}(D:Kh z TI TO i1 i2):
  Turn P w K (.Name x px) (MZ K t1 t2) [z,TI,TO,i1,i2] z (fun i h=>pH h z TI TO i1 i2/\h.IsTupleIter i1 t1 i/\h.IsTupleIter i2 t2 i) where
 mem:=by simp
 obj:=fun i h ⟨⟨⟨f0,f1,hz,_⟩,hTI,a,b,hTO⟩,h1,h2⟩ c hc=>by
  have hc':c=z\/c=TI\/c=TO\/c=i1\/c=i2:=by simpa using hc
  rcases hc' with rfl | rfl | rfl | rfl | rfl
  ·exact⟨_,hz,fun v e=>by cases e⟩
  ·exact⟨_,hTI,fun v e=>by cases e⟩
  ·exact⟨_,hTO,fun v e=>by cases e⟩
  ·obtain⟨o,e,c,d⟩:=h1; exact⟨o,e,fun v z=>by rw [d]at z; cases z⟩
  ·obtain⟨o,e,c,d⟩:=h2; exact⟨o,e,fun v z=>by rw [d]at z; cases z⟩
 keep:=fun i h h' ⟨⟨⟨f0,f1,hz,q⟩,hTI,a,b,hTO⟩,h1,h2⟩ k=>
  ⟨⟨⟨f0,f1,k z (by simp) _ hz,q⟩,k TI (by simp) _ hTI,a,b,k TO (by simp) _ hTO⟩,h1.at fun o e=>k i1 (by simp) o e,h2.at fun o e=>k i2 (by simp) o e⟩
 item:=by
  intro X hP hw hK hc i pins s σ H E I hf ⟨hZ,h1,h2⟩ hg
  subst hP hw hK
  obtain⟨xs,ys,x0,y0,hq1,hq2,hx,hy⟩:=hg
  obtain⟨its1,rv1,p1,hz1⟩:=I.tuple hq1
  obtain⟨its2,rv2,p2,hz2⟩:=I.tuple hq2
  obtain⟨u,hu,ru⟩:=rv1.get hx
  obtain⟨v,hv,rv⟩:=rv2.get hy
  have n1: ∀b∈ [z,TI,TO,i1,i2],t1≠b:=fun b hb=>wz I (hf b hb) hq1
  have n2: ∀b∈ [z,TI,TO,i1,i2],t2≠b:=fun b hb=>wz I (hf b hb) hq2
  refine xv D ⟨n1 _ (by simp),n1 _ (by simp),n1 _ (by simp),n1 _ (by simp)⟩ ⟨n2 _ (by simp),n2 _ (by simp),n2 _ (by simp),n2 _ (by simp)⟩ hZ h1 h2 (show s.heap.IsTuple t1 its1.toArray from p1) (show s.heap.IsTuple t2 its2.toArray from p2) (x:=u) (y:=v) (by simpa using hu) (by simpa using hv) fun h' a1 a2 a3 a4 k=> ?_
  have kk: ∀b o,b∉ [z,TI,TO,i1,i2]->s.heap.get? b=some o->h'.get? b=some o:=fun b o hb e=>k b o (fun q=>hb (by simp [q])) (fun q=>hb (by simp [q])) (fun q=>hb (by simp [q])) (fun q=>hb (by simp [q])) e
  have I1:Inv X pins σ (upd H s.heap.objs.size (.tup [x0,y0])) {s with heap:=h'}:=xX (t':=s.toks) I hf kk (bt I.fresh) (fun b o e n=>by rw [ck (aE (au e))]; exact n)
   (DG I hf kk I.fresh ⟨by show 2<=sizeLine; decide, [u,v], .cons ru (.cons rv .nil),⟨_,a4,rfl,_,rfl⟩⟩)
  refine⟨_,rfl,af ⟨.ref s.heap.objs.size,_,I1,rfl,⟨s.heap.objs.size,x0,y0,rfl,I.fresh,rfl,fun zs hq=>by rw [I.tuple_inj hq hq1]; exact hx,fun zs hq=>by rw [I.tuple_inj hq hq2]; exact hy⟩,⟨a1,a2,a3⟩,fun b hb=> ?_⟩⟩
  have hbl:b < s.heap.objs.size:=by
   have hb':b=z\/b=TI\/b=TO\/b=i1\/b=i2:=by simpa using hb
   obtain⟨⟨f0,f1,hz,_⟩,hTI,a,b,hTO⟩:=hZ
   obtain⟨o1,e1,_⟩:=h1
   obtain⟨o2,e2,_⟩:=h2
   rcases hb' with rfl | rfl | rfl | rfl | rfl
   ·exact au hz
   ·exact au hTI
   ·exact au hTO
   ·exact au e1
   ·exact au e2
  rw [ck (aE hbl)]
  exact(hf b hb).1
 done:=by
  intro X hP hw hK hc i pins s σ H E I hf ⟨hZ,h1,h2⟩ hg
  subst hP hw hK
  obtain⟨xs,ys,hq1,hq2,hx⟩:=hg
  obtain⟨its1,rv1,p1,hz1⟩:=I.tuple hq1
  obtain⟨its2,rv2,p2,hz2⟩:=I.tuple hq2
  have n1: ∀b∈ [z,TI,TO,i1,i2],t1≠b:=fun b hb=>wz I (hf b hb) hq1
  have n2: ∀b∈ [z,TI,TO,i1,i2],t2≠b:=fun b hb=>wz I (hf b hb) hq2
  have l1:=rv1.length
  have l2:=rv2.length
  refine qH (I.ok.hd hc) D ⟨n1 _ (by simp),n1 _ (by simp),n1 _ (by simp),n1 _ (by simp)⟩ ⟨n2 _ (by simp),n2 _ (by simp),n2 _ (by simp),n2 _ (by simp)⟩ hZ h1 h2 (show s.heap.IsTuple t1 its1.toArray from p1) (show s.heap.IsTuple t2 its2.toArray from p2) ?_ fun h' k=> ?_
  ·rcases hx with hx | hx
   ·exact .inl (by simp; omega)
   ·exact .inr (by simp; omega)
  have kk: ∀b o,b∉ [z,TI,TO,i1,i2]->s.heap.get? b=some o->h'.get? b=some o:=fun b o hb e=>k b o (fun q=>hb (by simp [q])) (fun q=>hb (by simp [q])) (fun q=>hb (by simp [q])) (fun q=>hb (by simp [q])) e
  exact⟨rfl,xX (t':=s.toks) I hf kk (bJ.refl _) (fun b o e n=>n) (C_ I hf kk)⟩
 self:=fun _ _ _ _ _ st h=>qA st.1 h
def LP(K:Frag)(ta:TA):TI:=fun σ H R=>ta σ H fun vs H1=> ∃t1 t2,vs= [.ref t1, .ref t2]/\(∃xs,jR K H1 t1 xs)/\(∃ys,jR K H1 t2 ys)/\R (MZ K t1 t2) H1
section
variable {X:Cx}{ρ:eT}{e a b:Expr}{d:D}{ds es:List D}{p pos px:Pos}{x:Str}
theorem BF:cZ "zip"=some (.type "zip"):=by decide +kernel
theorem Jc{ta:TA}(hg:Gl X "zip")(hm:X.mg "zip"=none)(ha:PA X [a,b] ta)(hs:ar [a,b] X.env= [(false,eval a X.env),(false,eval b X.env)]:=by rfl)(hs2:ar [b] X.env= [(false,eval b X.env)]:=by rfl):
  PI X (.Name x px) (.Call (.Name "zip" p) [a,b] [] pos) (LP X.K ta):=by
 intro pins s σ H R I h
 refine Call_ (pX I hg hm BF (kh (eN (ha pos pins s σ H _ I h) fun us s1 ⟨vs,H1,I1,r1,q1⟩=> ?_) (by rw [hs,hs2]) (by rw [hs2]; rfl)))
 obtain⟨t1,t2,e,⟨xs,hq1⟩,⟨ys,hq2⟩,q⟩:=q1
 subst e
 cases r1 with
 | cons r rr=>
  cases rr with
  | cons r' rr=>
   cases rr
   cases r
   cases r'
   obtain⟨its1,rv1,p1,hz1⟩:=I1.tuple hq1
   obtain⟨its2,rv2,p2,hz2⟩:=I1.tuple hq2
   refine BS (show s1.heap.IsTuple t1 its1.toArray from p1) (show s1.heap.IsTuple t2 its2.toArray from p2) fun h' a1 a2 a3 k=> ?_
   refine qA (s:={s1 with heap:=h'}) a1 ?_
   have D:Kh (s1.heap.objs.size+4) (s1.heap.objs.size+2) (s1.heap.objs.size+3) s1.heap.objs.size (s1.heap.objs.size+1):=by
    constructor <;> first | exact aE (by show(_:Nat) < _; omega) | exact bP (by show(_:Nat) < _; omega)
   refine⟨_, [s1.heap.objs.size+4,s1.heap.objs.size+2,s1.heap.objs.size+3,s1.heap.objs.size,s1.heap.objs.size+1],_,_,H1,rfl,I1.kept (t':=s1.toks) k,Dc D,⟨a1,a2,a3⟩,fun b hb=> ?_,q⟩
   have hb':b=s1.heap.objs.size+4\/b=s1.heap.objs.size+2\/b=s1.heap.objs.size+3\/b=s1.heap.objs.size\/b=s1.heap.objs.size+1:=by simpa using hb
   have hle:s1.heap.objs.size<=b:=by rcases hb' with rfl | rfl | rfl | rfl | rfl <;> (show(_:Nat)<=_; omega)
   exact I1.fpOk hle (I1.dO.fresh hle)
def DK(ds es:List D):List D:=(ds.zip es).map fun p=>D.tup [p.1,p.2]
theorem ky.zipT(hg:Gl X "zip")(hm:X.mg "zip"=none)(h1:av X ρ a (.tup ds))(h2:av X ρ b (.tup es))(hs:ar [a,b] X.env= [(false,eval a X.env),(false,eval b X.env)]:=by rfl)(hs2:ar [b] X.env= [(false,eval b X.env)]:=by rfl):
  ky X ρ (.Name x px) (.Call (.Name "zip" p) [a,b] [] pos) (DK ds es):=fun M0 H0 γ α σ H R r k=>(Jc hg hm wu hs hs2).to ((aP.cons h1 (aP.cons h2 aP.nil hs2) (by rw [hs,hs2])) M0 H0 γ α σ H _ r fun vs H1 s x=>by
 obtain⟨v1,r1,rfl,e1,v2,r2,rfl,e2,e3⟩:=x
 cases e3
 obtain⟨t1,xs,rfl,sq1,dn1⟩:=id e1
 obtain⟨t2,ys,rfl,sq2,dn2⟩:=id e2
 refine⟨t1,t2,rfl,⟨xs,sq1⟩,⟨ys,sq2⟩,k _ H1 [(.tup ds, .ref t1),(.tup es, .ref t2)] s (fun p hp=> ?_) fun M H2 hg=> ?_⟩
 ·have hp':p=(.tup ds, .ref t1)\/p=(.tup es, .ref t2):=by simpa using hp
  rcases hp' with rfl | rfl
  ·exact e1
  ·exact e2
 obtain⟨q1,xs',ee1,sq1',dn1'⟩:=hg _ (bT)
 obtain⟨q2,ys',ee2,sq2',dn2'⟩:=hg _ (cb _ (bT))
 cases ee1; cases ee2
 have L1:=dn1'.len
 have L2:=dn2'.len
 refine⟨fun i d hi=> ?_,⟨xs',ys',sq1',sq2', ?_⟩⟩
 ·unfold DK at hi
  rw [ax]at hi
  cases e:(ds.zip es)[i]? with
  | none=>rw [e]at hi; cases hi
  | some pq=>
   rw [e]at hi
   cases hi
   obtain⟨g1,g2⟩:=List.getElem?_zip_eq_some.mp e
   obtain⟨x,hx,dx⟩:=dn1'.get g1
   obtain⟨y,hy,dy⟩:=dn2'.get g2
   refine⟨⟨xs',ys',x,y,sq1',sq2',hx,hy⟩,fun v H' hv=> ?_⟩
   obtain⟨T,x',y',rfl,hT,rfl,f1,f2⟩:=hv
   have e1:=f1 xs' sq1'
   have e2:=f2 ys' sq2'
   rw [hx]at e1; cases e1
   rw [hy]at e2; cases e2
   exact⟨bt hT,T,_,rfl,jR.of bC,_,_,rfl,dx.same (bt hT),_,_,rfl,dy.same (bt hT),rfl⟩
 ·unfold DK
  rw [ae,b9]
  omega)
end
def lX:List Str->List D->Str->Option D
 | n::ns,d::ds,f=>if f==n then some d else lX ns ds f
 | _,_,_=>none
theorem AJ{K:Frag}{M:MP}{H:Hp}{f:Str}{d:D}: ∀{ns:List Str} {ds:List D} {fs:List (Str×V)},fs.map (·.1)=ns->cA K M H ds (fs.map (·.2))->lX ns ds f=some d-> ∃v,fs.lookup f=some v/\Dn K M H d v
 | [],_,_,_,_,h=>by simp [lX]at h
 | n::ns, [],_,_,_,h=>by simp [lX]at h
 | n::ns,d'::ds, [],e,_,_=>by cases e
 | n::ns,d'::ds,(k,x)::fs,e,⟨v,r,e2,h1,h2⟩,h=>by
  have ek:k=n:=by injection e
  have en:fs.map (·.1)=ns:=by injection e
  have ev:x=v:=by injection e2
  have er:fs.map (·.2)=r:=by injection e2
  subst ek ev er
  unfold lX at h
  rw [hV]
  cases hb:f==k with
  | true=>rw [hb]at h; cases h; exact⟨x,rfl,h1⟩
  | false=>rw [hb]at h; exact AJ en h2 h
theorem yG{f:Str}: ∀{ns:List Str} {fs:List (Str×V)},fs.map (·.1)=ns->ns.all (fun n=> !(f==n))=true->fs.lookup f=none
 | _, [],_,_=>rfl
 | ns,(k,x)::fs,e,h=>by
  subst e
  rw [bf,List.all_cons,bx]at h
  rw [hV]
  cases hb:f==k with
  | true=>rw [hb]at h; exact absurd h.1 (by decide)
  | false=>exact yG rfl h.2
structure Km(P:aq)(w:World)(K:Frag)(mg:Str->Option Value)(base:Heap)(CX:f9)(k:Nat)(C:Addr)(m:Str){ι:Type}(args:ι->List D)(pre:ι->Prop)(res:ι->Except Addr D):Prop where
 ex: ∃(f:Addr) (fd:aV) (ps:List Str),mw P w K mg base CX k f fd ps (lQ K args pre res)/\Meth K C m f/\Binds K fd ps []
section
variable {X:Cx}{ρ:eT}{M0:MP}{H0:Hp}{o e:Expr}{es:List Expr}{d:D}{ds:List D}{ns:List Str}{C:Addr}{f m:Str}{pos p apos:Pos}{CX:f9}{k:Nat}{x:Str}{ι:Type}{args:ι->List D}{pre:ι->Prop}{res:ι->Except Addr D}
theorem av.fld(c:zo X.K C)(n:i6 X.K C f)(h:av X ρ e (.ins C ns ds))(hf:lX ns ds f=some d)(hb:jC e f X.env (eval e X.env)=eval e X.env:=by rfl):av X ρ (.Attribute e f pos) d:=fun M0 H0 γ α σ H Q R kk=>
 (Jh g7 hb).to (h M0 H0 γ α σ H _ R fun v H1 s x=>by
  obtain⟨a,dx,fs,rfl,hH,hn,dn⟩:=x
  obtain⟨v,l,dv⟩:=AJ hn dn hf
  exact⟨a,C,dx,fs,v,rfl,hH,c,n,l,kk v H1 s dv⟩)
theorem av.meth0{pl:Sem Bool}(c:zo X.K C)(F:Km X.prog X.w X.K X.mg X.base CX k C m args pre res)(hr:fq k X.A)(hx:Passes CX X E0)(i:ι)(h:av X ρ o (.ins C ns ds))(hi:args i= [.ins C ns ds])(hp:pre i)(hres:res i= .ok d)(hn:ns.all (fun n=> !(m==n))=true:=by decide +kernel)
  (ht:eval (.Call (.Attribute o m apos) [] [] pos) X.env=(do
   let ov<-eval o X.env
   standAt apos.atName
   let(f,first)<-kg [ov] (getMethod ov m pl)
   callWith pos f first (dZ pos (ar [] X.env)) (backToKw pos (Cj [] X.env))):=by rfl):av X ρ (.Call (.Attribute o m apos) [] [] pos) d:=fun M0 H0 γ α σ H Q R kk=>by
 obtain⟨f,fd,ps,F,hm,hb⟩:=F.ex
 refine(DT g7 c hm F hr hb .nil hx ht).to (h M0 H0 γ α σ H _ R fun v H1 s1 dn=> ?_)
 obtain⟨a,dx,fs,rfl,hH,hns,dn'⟩:=id dn
 refine⟨a,dx,fs,rfl,hH,yG hns hn, ?_⟩
 refine⟨i,MM M0 ρ α,iH R s1,by rw [hi]; exact⟨_,_,rfl,dn,rfl⟩,hp,fun d' e v H2 s2 dn=>by rw [hres]at e; cases e; exact kk v H2 (s1.trans s2) dn,fun C e=>by rw [hres]at e; cases e⟩
end
section
variable {P:aq}{w:World}{K:Frag}{mg:Str->Option Value}{base:Heap}{CX:f9}{k:Nat}{x qual:Str}{st:Stmt}{f C:Addr}{fd:aV}{N ps:List Str}{ι:Type}{args:ι->List D}{pre:ι->Prop}{res:ι->Except Addr D}
theorem vO(F:jo K x qual st f fd)(S:bL N ps (aF st))(hm:Meth K C x f)(hb:Binds K fd ps [])(hl: ∀i,(args i).length=ps.length)
  (body: ∀(cdv:Value) (A:bh) (outer:List Env) (s:ah) (H:Hp) (E:XK) (i:ι) (M0:MP),pre i->fq k (A.deeper (j8 qual (aF st) s.heap.objs.size f cdv))->
   ∃d,res i= .ok d/\WS (kz CX P w K mg base N qual (aF st) f cdv A outer s H E).nox M0 H (ba st) (qI N (args i)) {N:=fun _=>d= .non,R:=fun d'=>d'=d}):Km P w K mg base CX (k+1) C x args pre res:=
 ⟨f,fd,ps,AG F S hl body,hm,hb⟩
end
def eG(H:Hp)(x:Addr):Hp:=fun b=>if b=x then none else H b
theorem pO{H:Hp}{x:Addr}:eG H x x=none:=if_pos rfl
theorem e_{H:Hp}{x:Addr}:bJ (eG H x) H:=fun b o e=>by
 unfold eG at e
 split at e
 ·cases e
 ·exact e
def D.noI:Nat->D->Prop
 | _, .non=>True
 | _, .bl _=>True
 | _, .int _=>True
 | _, .str _=>True
 | n+1, .tup ds=> ∀d∈ds,D.noI n d
 | n+1, .lst ds=> ∀d∈ds,D.noI n d
 | _,_=>False
theorem vZ{K:Frag}{M:MP}{H H':Hp}: ∀{ds:List D} {xs:List V},(∀d∈ds, ∀v,Dn K M H d v->Dn K M H' d v)->cA K M H ds xs->cA K M H' ds xs
 | [],_,_,r=>r
 | d::ds,_,h,⟨v,t,e,h1,h2⟩=>⟨v,t,e,h d (.head _) v h1,vZ (fun x hx=>h x (.tail _ hx)) h2⟩
theorem Dn.noI{K:Frag}{M:MP}{H H':Hp}(kk: ∀b o,H b=some o->(∀C dx fs,o≠ .ins C dx fs)->H' b=some o): ∀(n:Nat) {d:D} {v:V},D.noI n d->Dn K M H d v->Dn K M H' d v:=by
 intro n
 induction n with
 | zero=>intro d v hf h; cases d <;> first | exact h | exact hf.elim
 | succ n ih=>
  intro d v hf h
  cases d with
  | tup ds=>
   obtain⟨a,xs,e,s,r⟩:=h
   refine⟨a,xs,e, ?_,vZ (fun d hd v=>ih (hf d hd)) r⟩
   rcases s with(s | ⟨o,s⟩) | s
   ·exact .inl (.inl (kk _ _ s (by intros; intro z; cases z)))
   ·exact .inl (.inr ⟨o,kk _ _ s (by intros; intro z; cases z)⟩)
   ·exact .inr s
  | lst ds=>
   obtain⟨a,xs,e,s,r⟩:=h
   refine⟨a,xs,e, ?_,vZ (fun d hd v=>ih (hf d hd)) r⟩
   rcases s with⟨s | ⟨o,s⟩,m⟩ | s
   ·exact .inl ⟨.inl (kk _ _ s (by intros; intro z; cases z)),m⟩
   ·exact .inl ⟨.inr ⟨o,kk _ _ s (by intros; intro z; cases z)⟩,m⟩
   ·exact .inr s
  | non=>exact h
  | bl _=>exact h
  | int _=>exact h
  | str _=>exact h
  | _=>exact hf.elim
theorem Eg{H:Hp}{x C dx:Addr}{fs fs':List (Str×V)}(hx:H x=some (.ins C dx fs)): ∀b o,H b=some o->(∀C dx fs,o≠ .ins C dx fs)->upd H x (.ins C dx fs') b=some o:=fun b o e n=>by
 by_cases hb:b=x
 ·subst hb
  rw [hx]at e; cases e
  exact absurd rfl (n _ _ _)
 ·rw [ck hb]; exact e
theorem Rep.ins{K:Frag}{M0:MP}{H0 H:Hp}{α:Nat->Addr}{ρ:eT}{σ:St}{x C dx:Addr}{fs fs':List (Str×V)}(r:Rep K M0 H0 [] α ρ σ H)(h0:H0 x=none)(hx:H x=some (.ins C dx fs))(hi: ∀s∈ρ,s= .un\/ ∃d,s= .im d/\D.noI 9 d):Rep K M0 H0 [] α ρ σ (upd H x (.ins C dx fs')):=by
 have nomu: ∀(i:Nat) (ds:List D),ρ[i]? =some (.mu ds)->False:=fun i ds e=>by
  rcases hi _ (aW e)with z | ⟨d,z,_⟩ <;> cases z
 refine⟨g9 r.same h0,r.old,r.inj,fun i d e=> ?_,fun i ds e=>(nomu i ds e).elim,(fun p hp=>by cases hp),r.len⟩
 obtain⟨v,h1,h2⟩:=r.im i d e
 rcases hi _ (aW e)with z | ⟨d',z,n⟩
 ·cases z
 ·cases z
  exact⟨v,h1,Dn.noI (Eg hx) 9 n h2⟩
section
variable {X:Cx}{ρ:eT}{M0:MP}{H0 H:Hp}{γ:List (D×V)}{α:Nat->Addr}{σ:St}{En:Ends}{c e:Expr}{d:D}{s1:List Stmt}{pos pos' p:Pos}{x C dx:Addr}{f y:Str}{fs:List (Str×V)}
theorem r_(h:cG X ρ c false)(R:Rep X.K M0 H0 γ α ρ σ H)(k: ∀H',bJ H H'->En.nx σ H'):tS X (.If c s1 [] pos) En σ H:=
 (xN CB fK fK).to (h M0 H0 γ α σ H _ R fun H1 s=>qE (rA.to (k H1 s)))
theorem zH(i:Nat)(hN:X.N[i]? =some y)(hv:yy X.env.scope y)(hσ:σ[i]? =some (some (.ref x)))(cl:zo X.K C)(n:i6 X.K C f)(hl:fs.length < 1000)(h:av X ρ e d)(R:Rep X.K M0 H0 γ α ρ σ H)(hx:H x=some (.ins C dx fs))
  (k: ∀v H1,bJ H H1->Dn X.K (MM M0 ρ α) H1 d v->En.nx σ (upd H1 x (.ins C dx (fY f v fs))))(hs:cQ e (some (.Attribute (.Name y p) f pos')) pos.line X.env=pure false:=by rfl)(hd:(y==("__debug__":Str))=false:=by decide)(hcd:(y==("__classdict__":Str))=false:=by decide):
  tS X (.Assign [.Attribute (.Name y p) f pos'] e pos) En σ H:=
 (DY (lU hN hv hd hcd) g7 hs).to (h M0 H0 γ α σ H _ R fun v H1 s dn=>⟨_,hσ,x,C,dx,fs,rfl,s _ _ hx,cl,n,hl,k v H1 s dn⟩)
theorem Gq{W:D->Prop}(i:Nat)(hN:X.N[i]? =some y)(hv:yy X.env.scope y)(hσ:σ[i]? =some (some (.ref x)))(cl:zo X.K C)(n:i6 X.K C f)(hl:fs.length < 1000)(h:GO X ρ e W)(R:Rep X.K M0 H0 γ α ρ σ H)(hx:H x=some (.ins C dx fs))
  (k: ∀d v H1,W d->bJ H H1->Dn X.K (MM M0 ρ α) H1 d v->En.nx σ (upd H1 x (.ins C dx (fY f v fs))))(hs:cQ e (some (.Attribute (.Name y p) f pos')) pos.line X.env=pure false:=by rfl)(hd:(y==("__debug__":Str))=false:=by decide)(hcd:(y==("__classdict__":Str))=false:=by decide):
  tS X (.Assign [.Attribute (.Name y p) f pos'] e pos) En σ H:=
 (DY (lU hN hv hd hcd) g7 hs).to (h M0 H0 γ α σ H _ R fun d v H1 hd s dn=>⟨_,hσ,x,C,dx,fs,rfl,s _ _ hx,cl,n,hl,k d v H1 hd s dn⟩)
end
def Mh(K:Frag)(C:Addr)(ns:List Str){ι:Type}(args:ι->List D)(pre:ι->Prop)(res:ι->List D->Prop):Sp:=fun vs H Q E=>
 ∃(i:ι) (M0:MP) (x dx:Addr) (us:List V),vs= .ref x::us/\H x=some (.ins C dx [])/\(∀a,M0 a->eG H x a≠none)/\cA K M0 H (args i) us/\pre i/\
  ∀ds fs H',res i ds->bJ (eG H x) H'->H' x=some (.ins C dx fs)->fs.map (·.1)=ns->cA K M0 H' ds (fs.map (·.2))->Q .non H'
structure Mr(P:aq)(w:World)(K:Frag)(mg:Str->Option Value)(base:Heap)(CX:f9)(k:Nat)(x:Str)(C:Addr)(ns:List Str){ι:Type}(args:ι->List D)(pre:ι->Prop)(res:ι->List D->Prop):Prop where
 ex: ∃(f:Addr) (fd:aV) (ps:List Str),mw P w K mg base CX k f fd ps (Mh K C ns args pre res)/\Mk K C f/\mg x=some (.ref C)/\Binds K fd ps []
section
variable {X:Cx}{ρ:eT}{e:Expr}{es:List Expr}{C:Addr}{x:Str}{ns:List Str}{pos p:Pos}{CX:f9}{k:Nat}{ι:Type}{args:ι->List D}{pre:ι->Prop}{res:ι->List D->Prop}
theorem GO.make(F:Mr X.prog X.w X.K X.mg X.base CX k x C ns args pre res)(hr:fq (k+1) X.A)(hx:Passes CX X E0)(hg:Gl X x)(i:ι)(ha:aP X ρ (e::es) (args i))(hp:pre i)(hdb:(x==("__debug__":Str))=false:=by decide)
  (he:ar (e::es) X.env=(false,eval e X.env)::ar es X.env:=by rfl)(hpl:(dZ pos (ar es X.env)).any (·.1)=false:=by rfl):GO X ρ (.Call (.Name x p) (e::es) [] pos) (fun d=> ∃ds,d= .ins C ns ds/\res i ds):=fun M0 H0 γ α σ H Q R kk=>by
 obtain⟨f,fd,ps,F,M,hm,hb⟩:=F.ex
 refine(HB M F hr hg hm hb .nil hx wu hdb he hpl).to (ha M0 H0 γ α σ H _ R fun vs H1 s1 d1=>fun y dy n1 n2 ne=> ?_)
 rw [aZ]
 have sm:bJ H1 (upd (upd H1 dy (.own y)) y (.ins C dy [])):=fun b o e=>by rw [ck (fI e n1),ck (fI e n2)]; exact e
 have smh:bJ H1 (eG (upd (upd H1 dy (.own y)) y (.ins C dy [])) y):=fun b o e=>by
  unfold eG
  rw [if_neg (fI e n1)]
  exact sm b o e
 refine⟨i,MM M0 ρ α,y,dy,vs,rfl,bC,fun a ha z=>iH R s1 a ha (smh.free z),d1.same sm,hp,fun ds fs H' hres s2 hy hns dn=>⟨rfl,kk (.ins C ns ds) (.ref y) H' ⟨ds,rfl,hres⟩ ((s1.trans smh).trans s2) ⟨y,dy,fs,rfl,hy,hns,dn⟩⟩⟩
end
def jv(env:Env)(x:Str×jH)(r:List (Str×Addr)):Sem (ForInStep (List (Str×Addr))):=do
 if x.2==yM then do
  let a<-cellOf env x.1
  pure (iE ((x.1,a)::r))
 else pure (iE r)
theorem nt{env:Env}: ∀(l rest:List (Str×jH)) (acc:List (Str×Addr)),(∀z∈l,z.2≠ .free)->forIn (l ++ rest) acc (jv env)=forIn rest acc (jv env)
 | [],_,_,_=>rfl
 | z::l,rest,acc,h=>by
  have hz:(z.2==yM)=false:=by simpa using h z (.head _)
  rw [mD,cP]
  have e:jv env z acc=pure (iE acc):=by unfold jv; rw [hz]; rfl
  rw [e]
  simp only [ua]
  exact nt l rest acc fun w hw=>h w (.tail _ hw)
theorem sW{scope:Scope}{env:Env}{y:Str}{c:Addr}{pre post:List (Str×jH)}(hs:scope.names=pre ++ (y, .free)::post)(h1: ∀z∈pre,z.2≠ .free)(h2: ∀z∈post,z.2≠ .free)(hc:env.cells.lookup y=some c):wQ scope env=pure [(y,c)]:=by
 have all:forIn scope.names ([]:List (Str×Addr)) (jv env)=pure [(y,c)]:=by
  rw [hs,nt pre _ [] h1,cP]
  have e:cellOf env y=pure c:=by unfold cellOf; rw [hc]
  have e2:jv env (y, .free) []=pure (iE [(y,c)]):=by
   unfold jv
   simp only [beq_self_eq_true,if_true,e,ua]
  rw [e2]
  simp only [ua]
  have:=nt (env:=env) post [] [(y,c)] h2
  rw [aZ]at this
  rw [this]
  rfl
 have e2:=congrArg (fun m=>m >>=fun r=>(pure r:Sem (List (Str×Addr)))) all
 have e3:wQ scope env=(forIn scope.names ([]:List (Str×Addr)) (jv env) >>=fun r=>pure r):=rfl
 rw [e3,all]
 rfl
theorem eE.cap1{X:Cx}{scope:Scope}{x y:Str}{c:Addr}{j:Nat}{pre post rn:List (Str×jH)}(hs:scope.names=pre ++ (y, .free)::post)(h1: ∀z∈pre,z.2≠ .free)(h2: ∀z∈post,z.2≠ .free)(hcl:X.env.cells.lookup y=some c)
  (hc: ∀z∈scope.names,z.2≠ .cell)(hk:scope.kind= .function)(hn: ∀y∈scope.names,y.2= .local->scope.names.lookup y.1=some .local)(ho:scope.names.lookup x=some .local)(hj:X.N[j]? =some y)(hy:X.env.scope.names.lookup y=some .cell)
  (hrel:(o8 scope X.env).names=rn)(hrn:rn.lookup y=some .cell)(hall: ∀z∈rn,(z.2= .cell\/z.2= .free)->z.1=y):eE X [x,y] [j] scope x [(y,c)] where
 Ca:=sW hs h1 h2 hcl
 cell:=hc
 kind:=hk
 names:=hn
 own:=ho
 hN:=⟨[y],rfl,rfl,fun i z k e1 e2=>by
  cases i with
  | zero=>
   have e1':y=z:=by simpa using e1
   have e2':j=k:=by simpa using e2
   subst e1' e2'
   refine⟨hj,hy,by rw [hrel]; exact hrn,fun c' e=> ?_⟩
   rw [hcl]at e
   cases e
   simp
  | succ i=>simp at e1⟩
 sub:=fun z d h=>by
  rw [hV]at h
  cases hb:z==y with
  | true=>
   rw [hb]at h
   cases h
   rw [beq_iff_eq.mp hb]
   exact hcl
  | false=>rw [hb]at h; simp at h
 has:=fun z h=>by
  rw [hrel]at h
  have:z=y:=by
   rcases h with h | h
   ·exact hall _ (cD h) (.inl rfl)
   ·exact hall _ (cD h) (.inr rfl)
  subst this
  exact⟨c,by simp⟩
theorem Ip{ρ:eT}{j:Nat}{c:D}(h:ρ[j]? =some (.im c)):xB ρ [j] [c]:=⟨rfl,fun k i d e1 e2=>by
 cases k with
 | zero=>
  have e1':j=i:=by simpa using e1
  have e2':c=d:=by simpa using e2
  subst e1' e2'
  exact h
 | succ k=>simp at e1⟩
section
variable {X:Cx}{ρ:eT}{e a b:Expr}{d:D}{ds:List D}{pos p p2 p3 p4:Pos}
def KP(K:Frag):List V->Hp->VK->Prop:=fun xs H Q=> ∃v tp M d,xs= [v, .ref tp]/\H tp=some (.tup [.ty "list", .ty "tuple"])/\pj K M H d v/\oB d=true/\Q (.bl (vb "list" d || vb "tuple" d)) H
theorem BA:gK X (.builtin "isinstance") (KP X.K):=by
 intro pins s σ H xs us Q I r ⟨v,tp,M,d,e,ht,h,hp,q⟩
 subst e
 obtain⟨u,c,rfl,r1,r2⟩:=vals2 r
 cases (show c=ak tp from r2)
 obtain⟨_,its,rv,o,ho,hc,n,hd⟩:=(show fC X.prog X.w H s.heap tp (.tup [.ty "list", .ty "tuple"])from I.dO tp _ ht)
 obtain⟨oc,od,dt,sl⟩:=o
 cases (show oc=_ from hc)
 cases (show dt=_ from hd)
 cases rv with
 | cons q1 rv=>
  cases rv with
  | cons q2 rv=>
   cases rv
   cases (show _=cq "list" from q1)
   cases (show _=cq "tuple" from q2)
   refine Gh (its:= [.type "list", .type "tuple"]) (r:=vb "list" d || vb "tuple" d) I h r1 hp ho ?_ fun tk=>⟨.bl _,H,I.tok tk,rfl,q⟩
   cases d <;> first | rfl | (cases hp)
theorem av.isi2{x1:Nat}(hg:Gl X "isinstance")(hm:X.mg "isinstance"=none)(hg1:Gl X "list")(hm1:X.mg "list"=none)(hg2:Gl X "tuple")(hm2:X.mg "tuple"=none)(h:lZ X ρ e d)(hp:oB d=true)
  (he:ar [e, .Tuple [.Name "list" p2, .Name "tuple" p3] x1 p4] X.env=(false,eval e X.env)::ar [.Tuple [.Name "list" p2, .Name "tuple" p3] x1 p4] X.env:=by rfl)(he2:ar [.Tuple [.Name "list" p2, .Name "tuple" p3] x1 p4] X.env= [(false,eval (.Tuple [.Name "list" p2, .Name "tuple" p3] x1 p4) X.env)]:=by rfl)
  (he3:ar [.Name "list" p2, .Name "tuple" p3] X.env= [(false,eval (.Name "list" p2) X.env),(false,eval (.Name "tuple" p3) X.env)]:=by rfl)(he4:ar [.Name "tuple" p3] X.env= [(false,eval (.Name "tuple" p3) X.env)]:=by rfl)
  (hpl:(dZ pos (ar [.Tuple [.Name "list" p2, .Name "tuple" p3] x1 p4] X.env)).any (·.1)=false:=by rfl):
  av X ρ (.Call (.Name "isinstance" p) [e, .Tuple [.Name "list" p2, .Name "tuple" p3] x1 p4] [] pos) (.bl (vb "list" d || vb "tuple" d)):=fun M0 H0 γ α σ H Q R k=>
 (gZ BA hg hm uD (dG g7 (dG (E4 (dG (rh (v:= .ty "list") hg1 hm1 (by decide +kernel) rfl (by decide) (by decide)) (dG (rh (v:= .ty "tuple") hg2 hm2 (by decide +kernel) rfl (by decide) (by decide)) gG he4) (by rw [he3,he4]))) gG he2) he) (by decide) (by decide) he hpl).to
  (h M0 H0 γ α σ H _ R fun v H1 s1 d1=>⟨by show 2<=sizeLine; decide,fun q hq=>⟨v,q,_,d,rfl,bC,d1.same (bt hq),hp,k _ _ (s1.trans (bt hq)) rfl⟩⟩)
end
end Z
namespace K
open PySem L2 Z
theorem Dr{f:dM}(h1:0<=f.st)(h2:0<=f.ht):good f (gT f.st.toNat [])=true:=by
 unfold good
 rw [jq,decide_eq_true (by omega)]
 have e:(gT f.st.toNat ([]:List Int)).flatten= []:=by simp
 rw [e,decide_eq_true oY]
 simp only [iz,di]
 intro r hr
 rw [List.eq_of_mem_replicate hr]
 unfold jk
 simp [h2]
theorem rX{f:dM}{cell:Int}{st:List (List Int)×Option Int}{k:Nat}(h:good f st.1=true):good f (gO f cell st k).1=true:=by
 obtain⟨rows,oc⟩:=st
 cases oc with
 | none=>exact h
 | some c=>
  unfold gO
  dsimp only
  split
  ·rename_i hg; exact hg
  ·exact h
theorem rM{f:dM}{cell:Int}{rows:List (List Int)}{c:Int}(h:good f rows=true): ∀n,good f (place f cell rows c n).1=true
 | 0=>h
 | n+1=>by rw [ot]; exact rX (rM h n)
theorem qx{f:dM}: ∀(m:Nat) (cell:Int) (rows:List (List Int)) (left:List Int),good f rows=true->good f (sH f m cell rows left)=true
 | 0,_,_,_,h=>h
 | m+1,cell,rows,left,h=>qx m _ _ _ (rM h _)
theorem kC{f:dM}{cell:Int}{crates:List Int}(h1:0<=f.st)(h2:0<=f.ht):good f (fc f cell crates)=true:=qx _ _ _ _ (Dr h1 h2)
theorem gH{f:dM}{rows:List (List Int)}(h:good f rows=true):(rows.length:Int)=f.st:=by
 unfold good at h
 simp only [bx,decide_eq_true_eq]at h
 exact h.1.1
theorem ow{f:dM}{rows:List (List Int)}(h:good f rows=true)(hf:f.st<=4)(hh:f.ht<=6):rows.flatten.length<=24/\ ∀r∈rows,r.length<=6:=by
 have hr: ∀r∈rows,r.length<=6:=fun r hr=>by
  unfold good at h
  simp only [bx,decide_eq_true_eq,di]at h
  have h2:=h.2 r hr
  unfold jk at h2
  simp only [bx,decide_eq_true_eq]at h2
  omega
 refine⟨?_,hr⟩
 have hl:=gH h
 have: ∀rs:List (List Int),(∀r∈rs,r.length<=6)->rs.flatten.length<=6 * rs.length:=fun rs=>by
  induction rs with
  | nil=>intro _; simp
  | cons a rs ih=>
   intro ha
   have h1:=ih fun r hr=>ha r (.tail _ hr)
   have h2:=ha a (.head _)
   rw [cw,ao,aH]
   omega
 have:=this rows hr
 omega
structure Bm(mg:Str->Option Value):Prop extends Bn mg where
 rC:mg "isinstance"=none
 int:mg "int"=none
 bool:mg "bool"=none
 all:mg "all"=none
 any:mg "any"=none
 zip:mg "zip"=none
 sorted:mg "sorted"=none
 min:mg "min"=none
 lu: ∃t,mg "FEWEST_STACKS"=some (.int 2 t)
 most: ∃t,mg "MOST_STACKS"=some (.int 4 t)
 low: ∃t,mg "LOWEST_HEIGHT"=some (.int 1 t)
 great: ∃t,mg "GREATEST_HEIGHT"=some (.int 6 t)
 weak: ∃t,mg "WEAKEST_CRANE"=some (.int 1 t)
 El: ∃t,mg "STRONGEST_CRANE"=some (.int 3 t)
 IE: ∃t,mg "MOST_BANS"=some (.int 20 t)
 fst: ∃t,mg "FIRST_CRATE"=some (.int 0 t)
 lst: ∃t,mg "LAST_CRATE"=some (.int 9 t)
theorem si{X:Cx}{ρ:eT}{x:Str}{z:Int}{pos:Pos}(h: ∃t,X.mg x=some (.int z t))(hg:Gl X x)(hd:(x==("__debug__":Str))=false:=by decide):av X ρ (.Name x pos) (.int z):=
 let⟨t,e⟩:=h; av.glob (v:= .int z) hg e ⟨t,rfl⟩ (fun _ _=>rfl) hd
abbrev Cw(i:Nat):Stmt:=inClass (top 20) i
abbrev xK:Stmt:=inClass (top 20) 0
section
variable {P:aq}{w:World}{K:Frag}{mg:Str->Option Value}{base:Heap}{CX:f9}
theorem Dx:bL ["value","least","most"] ["value","least","most"] (aF vY):=⟨rfl,rfl,rfl,by decide +kernel,rfl,by decide +kernel,by decide +kernel⟩
abbrev nE(P:aq)(w:World)(K:Frag)(mg:Str->Option Value)(base:Heap)(CX:f9):Prop:=
 lO P w K mg base CX 1 "is_within" (fun i:Int×Int×Int=> [.int i.1, .int i.2.1, .int i.2.2]) (fun _=>True) (fun i=> .ok (.bl (decide (i.2.1<=i.1)&&decide (i.1<=i.2.2))))
theorem Cc{f:Addr}{fd:aV}(B:Bm mg)(F:jo K "is_within" "is_within" vY f fd)(hm:mg "is_within"=some (.ref f))(hb:Binds K fd ["value","least","most"] []):nE P w K mg base CX:=by
 refine fg F Dx hm hb (fun i=>rfl) fun cdv A outer s H E i M0 hp hr=>⟨_,rfl, ?_⟩
 obtain⟨v,lo,hi⟩:=i
 refine WS.cons (W1.ite (i5.t (i5.or (cG.not (cG.val (av.rC rfl B.rC rfl B.int (by decide +kernel) (.inl rfl) (av.r (nm 0 rfl rfl)) rfl))) fun _=>i5.or1 (cG.val (av.rC rfl B.rC rfl B.bool (by decide +kernel) (.inr (.inl rfl)) (av.r (nm 0 rfl rfl)) rfl)))) (fun h=> ?_) fun h=>WS.nil ?_)
 ·rw [HZ,Ee]at h
  cases h
 ·exact WS.one (W1.ret (av.chain .le .le (nm 1 rfl rfl) (nm 0 rfl rfl) (nm 2 rfl rfl)) rfl)
def jD(i:Int):Bool:=decide (0<=i)&&decide (i<=9)
theorem Hh:bL ["value"] ["value"] (aF zv):=⟨rfl,rfl,rfl,by decide +kernel,rfl,by decide +kernel,by decide +kernel⟩
abbrev wt(P:aq)(w:World)(K:Frag)(mg:Str->Option Value)(base:Heap)(CX:f9):Prop:=
 lO P w K mg base CX 2 "is_crate" (fun i:Int=> [.int i]) (fun _=>True) (fun i=> .ok (.bl (jD i)))
theorem EU{f:Addr}{fd:aV}(nx:NX CX)(B:Bm mg)(G:nE P w K mg base CX)(F:jo K "is_crate" "is_crate" zv f fd)(hm:mg "is_crate"=some (.ref f))(hb:Binds K fd ["value"] []):wt P w K mg base CX:=by
 refine fg F Hh hm hb (fun i=>rfl) fun cdv A outer s H E i M0 hp hr=>⟨_,rfl, ?_⟩
 exact WS.one (W1.ret (av.call G hr (aO nx) rfl (i,0,9) (aP.cons (nm 0 rfl rfl) (aP.cons (si B.fst rfl) (aP.cons (si B.lst rfl) aP.nil))) trivial rfl) rfl)
theorem Hc:bL ["ban"] ["ban"] (aF zI):=⟨rfl,rfl,rfl,by decide +kernel,rfl,by decide +kernel,by decide +kernel⟩
def pL(p:Int×Int):Bool:=jD p.1&&(jD p.2&& !decide (p.1=p.2))
abbrev zj(P:aq)(w:World)(K:Frag)(mg:Str->Option Value)(base:Heap)(CX:f9):Prop:=
 lO P w K mg base CX 3 "is_ban" (fun p:Int×Int=> [pD p]) (fun _=>True) (fun p=> .ok (.bl (pL p)))
theorem Du{f:Addr}{fd:aV}(nx:NX CX)(B:Bm mg)(G:wt P w K mg base CX)(F:jo K "is_ban" "is_ban" zI f fd)(hm:mg "is_ban"=some (.ref f))(hb:Binds K fd ["ban"] []):zj P w K mg base CX:=by
 refine fg F Hc hm hb (fun i=>rfl) fun cdv A outer s H E p M0 hp hr=>⟨_,rfl, ?_⟩
 obtain⟨p1,p2⟩:=p
 refine WS.cons (W1.ite (i5.t (i5.or (cG.not (cG.val (av.rC rfl B.rC rfl B.tuple (by decide +kernel) (.inr (.inr (.inr (.inl rfl)))) (av.r (nm 0 rfl rfl)) rfl))) fun _=>i5.or1 (cG.cI .ne (av.lenT rfl B.len (nm 0 rfl rfl)) av.int))) (fun h=> ?_) fun h=>WS.nil ?_)
 ·rw [show vb "tuple" (pD (p1,p2))=true from rfl]at h
  simp at h
 ·exact WS.one (W1.ret (av.and (av.call G hr (aO nx) rfl p1 (aP.cons (av.ixT (nm 0 rfl rfl) av.int rfl) aP.nil) trivial rfl) fun _=>av.and (av.call G hr (aO nx) rfl p2 (aP.cons (av.ixT (nm 0 rfl rfl) av.int rfl) aP.nil) trivial rfl) fun _=>av.one (av.cI .ne (av.ixT (nm 0 rfl rfl) av.int rfl) (av.ixT (nm 0 rfl rfl) av.int rfl))) rfl)
theorem Bp:bL ["bans"] ["bans"] (aF rP):=⟨rfl,rfl,rfl,by decide +kernel,rfl,by decide +kernel,by decide +kernel⟩
abbrev sv(P:aq)(w:World)(K:Frag)(mg:Str->Option Value)(base:Heap)(CX:f9):Prop:=
 lO P w K mg base CX 4 "are_bans" (fun ps:List (Int×Int)=> [.lst (ps.map pD)]) (fun ps=>ps.length<=100) (fun ps=> .ok (.bl (decide (ps.length<=20)&&ps.all pL)))
theorem zr{f:Addr}{fd:aV}(nx:NX CX)(B:Bm mg)(G:zj P w K mg base CX)(F:jo K "are_bans" "are_bans" rP f fd)(hm:mg "are_bans"=some (.ref f))(hb:Binds K fd ["bans"] []):sv P w K mg base CX:=by
 refine fg F Bp hm hb (fun i=>rfl) fun cdv A outer s H E ps M0 hp hr=>⟨_,rfl, ?_⟩
 have hp':ps.length<=100:=hp
 refine WS.cons (W1.ite (i5.t (i5.or (cG.not (cG.val (av.isi2 rfl B.rC rfl B.list rfl B.tuple (av.r (nm 0 rfl rfl)) rfl))) fun _=>i5.or1 (cG.cI .gt (av.lenL rfl B.len (av.r (nm 0 rfl rfl))) (si B.IE rfl)))) (fun h=> ?_) fun h=>WS.nil ?_)
 ·rw [show(vb "list" (D.lst (ps.map pD)) || vb "tuple" (D.lst (ps.map pD)))=true from rfl,ae]at h
  have h':(20:Int) < (ps.length:Int):=by simpa using h
  refine WS.one (W1.ret av.bl ?_)
  show D.bl false=D.bl (decide (ps.length<=20)&&ps.all pL)
  rw [decide_eq_false (by omega)]
  rfl
 ·rw [show(vb "list" (D.lst (ps.map pD)) || vb "tuple" (D.lst (ps.map pD)))=true from rfl,ae]at h
  have h': ¬(20:Int) < (ps.length:Int):=by simpa using h
  refine WS.one (W1.ret (av.to (av.all (bs:=ps.map pL) rfl rfl B.all (av.r (dP.toD (dP.comp (ds:=ps.map pD) (es:=(ps.map pL).map D.bl) (cs:= []) (eE.closed (by decide +kernel) (by decide +kernel) rfl (by decide +kernel) rfl) rfl (by decide +kernel) (ky.list (nm 0 rfl rfl)) wg (by simp) (by rw [ae]; omega) ?_)))) (d':= .bl (decide (ps.length<=20)&&ps.all pL)) (by rw [List.all_map,decide_eq_true (show ps.length<=20 by omega)]; rfl)) rfl)
  intro C s₀ H₀ fp pins i d e h1 h2
  rw [ax]at h1
  rw [ax,ax]at h2
  cases ei:ps[i]? with
  | none=>rw [ei]at h1; cases h1
  | some v=>
   rw [ei]at h1 h2
   cases h1
   cases h2
   exact av.call G hr (aO nx) rfl v (aP.cons (nm 0 rfl rfl) aP.nil) trivial rfl
end
end K
namespace Z
open PySem PySem.Spec PyProof.Rows L2
def mQ(ns:List Int):List Int:=ns.mergeSort fun a b=>decide (a<=b)
theorem pK(ns:List Int):(mQ ns).Perm ns:=List.mergeSort_perm _ _
theorem Jl(ns:List Int):(mQ ns).Pairwise (· <= ·):=by
 have h:=List.pairwise_mergeSort (le:=fun a b:Int=>decide (a<=b)) (fun a b c h1 h2=>by simp only [decide_eq_true_eq]at *; omega) (fun a b=>by simp only [uE,decide_eq_true_eq]; omega) ns
 exact h.imp fun h=>of_decide_eq_true h
theorem Fg{ns ns':List Int}(hp:ns'.Perm ns)(hs:ns'.Pairwise (· <= ·)):ns'=mQ ns:=
 List.Perm.eq_of_pairwise (fun a b _ _ h1 h2=>Int.le_antisymm h1 h2) hs (Jl ns) (hp.trans (pK ns).symm)
theorem ph(ns:List Int):(mQ ns).length=ns.length:=(pK ns).length_eq
theorem pQ: ∀{us:List Value} {ns:List Int},jb us ns->Vals (ns.map V.int) us
 | _,_, .nil=> .nil
 | _,_, .cons _ _ h=> .cons ⟨_,rfl⟩ (pQ h)
section
variable {X:Cx}{ρ:eT}{M0:MP}{H0:Hp}{P:pM}{e a b c tg:Expr}{d:D}{ds:List D}{pos p p1 p2:Pos}
theorem vP:gK X (.builtin "sorted") (fun xs H Q=> ∃q ns,xs= [.ref q]/\ox X.K H q (ns.map V.int)/\ns.length < 64/\ ∀l,H l=none->Q (.ref l) (upd H l (.lst ((mQ ns).map V.int)))):=by
 intro pins s σ H xs us Q I r ⟨q,ns,e,hq,hl,k⟩
 subst e
 obtain⟨u,rfl,rx⟩:=vals1 r
 cases rx
 obtain⟨its,r',pl,hz⟩:=I.list hq
 have hlen:=r'.length
 rw [ae]at hlen
 refine sorted_ints pl.isList (intsAre_of r') (by omega) fun out ns' a1 a2 a3=> ?_
 obtain⟨e,he⟩:=sortedAll_at s.heap its out
 have en:=Fg a2 a3
 subst en
 refine⟨.ref (s.heap.objs.size+1),_,I.laid (t':=s.toks) (fun b o e=>sortedAll_old e) (Ck _) (o:= .lst ((mQ ns).map V.int)) ⟨by rw [ae,ph]; exact jE (by omega),out.toList,e,pQ a1,by rw [he]⟩,rfl,k _ (I.dO.fresh (Ck _))⟩
theorem dP.sortedI{ns:List Int}(hg:Gl X "sorted")(hm:X.mg "sorted"=none)(h:lZ X ρ e (.lst (ns.map .int)))(hl:ns.length < 64)(he:ar [e] X.env= [(false,eval e X.env)]:=by rfl):dP X ρ (.Call (.Name "sorted" p) [e] [] pos) ((mQ ns).map .int):=fun M0 H0 γ α σ H Q R k=>
 (gZ vP hg hm (by decide +kernel) (dG g7 gG he) (by decide) (by decide) he).to (h M0 H0 γ α σ H _ R fun v H1 s1 d1=>by
  obtain⟨q,xs,rfl,sq,dn⟩:=d1
  rw [dn.ints]at sq
  exact⟨q,ns,rfl,sq,hl,fun l hl'=>k l _ H1 _ s1 hl' (bt hl') bC (cA.of_ints _)⟩)
end
section
variable {P:aq}{w:World}{K:Frag}{mg:Str->Option Value}{base:Heap}{CX:f9}{k:Nat}{x qual:Str}{st:Stmt}{f:Addr}{fd:aV}{N ps:List Str}{ι:Type}{args:ι->List D}{pre:ι->Prop}{res:ι->Except Addr D}
theorem HE(F:jo K x qual st f fd)(S:bL N ps (aF st))(hm:mg x=some (.ref f))(hb:Binds K fd ps [])(hl: ∀i,(args i).length=ps.length)
  (body: ∀(cdv:Value) (A:bh) (outer:List Env) (s:ah) (H:Hp) (E:XK) (i:ι) (M0:MP),pre i->fq k (A.deeper (j8 qual (aF st) s.heap.objs.size f cdv))->
   ∃d,res i= .ok d/\ ∀(σ:St),Rep K M0 H [] (fun _=>0) (qI N (args i)) σ H->nj (kz CX P w K mg base N qual (aF st) f cdv A outer s H E).nox (ba st) (ends K M0 H [] {N:=fun _=>d= .non,R:=fun d'=>d'=d}) σ H):lO P w K mg base CX (k+1) x args pre res:=by
 refine⟨f,fd,ps, ?_,hm,F.kp,hb⟩
 obtain⟨oc,od,kV,doc,pm,an,cdv,ct,osl,rfl,lk,hcd⟩:=F.ex
 refine xY lk hcd S (fun vs H Q E ⟨i,M0,_,h,_⟩=>by rw [h.len,hl]) fun A outer s H vs Q E hr hsp=> ?_
 obtain⟨i,M0,hM,h,hp,k1,k2⟩:=hsp
 obtain⟨d,hd,ws⟩:=body cdv A outer s H E i M0 hp hr
 refine⟨nj _ (ba st),(fK (X:=(kz CX P w K mg base N qual (aF st) f cdv A outer s H E).nox)).nox, ?_⟩
 refine nj.mono (En:=ends K M0 H [] {N:=fun _=>d= .non,R:=fun d'=>d'=d}) (fun σ' H' ⟨α,ρ,R,e⟩=> ?_) (fun v H' ⟨d',e,sm,dn⟩=> ?_) (fun _ _ ⟨_,_,_,z⟩=>z.elim) (fun _ _ ⟨_,_,_,z⟩=>z.elim) (ws _ (rep0 hM h))
 ·exact k1 d hd .non H' R.same (by rw [e]; exact rfl)
 ·subst e
  exact k1 _ hd v H' sm dn
end
end Z
namespace Z
open PySem PySem.Spec PyProof.Rows
abbrev GP(l:List Env):List Addr:=l.filterMap (·.frame)
def JX(h:Heap)(e T:Addr)(cls:Value):Prop:=
 T≠e/\(∃oe vs,h.get? e=some oe/\oe.cls=cls/\oe.data= .fields vs/\vs[1]? =some (.ref T)/\oe.dict=none)/\ ∃oT ts,h.get? T=some oT/\oT.data= .fields ts/\ts[3]? =some .none
structure xm(l:List Env)(ch:List Addr)(e T:Addr)(cls:Value)(h h':Heap):Prop where
 new:h.objs.size<=T
 tr:JX h' e T cls
 keep: ∀b o,b∉ch->b∉GP l->h.get? b=some o->h'.get? b=some o
 slot: ∀b o,b∈GP l->h.get? b=some o-> ∃sl,h'.get? b=some {o with slots:=sl}
section
variable {M:Model}{A:bh}{E:Value->ah->Prop}{s:ah}
theorem DV(f:Array Value->Array Value)(o:Obj):(dW f o).dict=o.dict:=by
 obtain⟨c,d,dt,sl⟩:=o
 cases dt <;> rfl
theorem oE{base:Heap}{env:Env}{outer:List Env}{L e:Addr}{oe:Obj}{vs:Array Value}{head:Value}{hn:Bool}{Q:Unit->ah->Prop}
  (hfr:A.frames=some (env::outer))(hl:s.heap.FunFrames base (env::outer))(hf:env.frame=some L)(he:s.heap.get? e=some oe)(hd:oe.data= .fields vs)(hsz:1 < vs.size)(hdn:oe.dict=none)
  (h: ∀h' T,xm (env::outer) [e] e T oe.cls s.heap h'->Q () {s with heap:=h'}):
  wpAny M A (do let a<-frameOf env; let pl<-entryPlaceOf L hn; let b<-EntryCells.newEntry head a .none (d_ L) .none pl; gW (.ref e) 1 b) (fun _ s'=>wpAny M A (y6 (.ref e) none) Q E s') E s:=by
 have nofr: ∀b∈GP (env::outer),b≠e:=fun b hb q=>by
  obtain⟨_,o,ho,nf⟩:=hl.mem hb
  rw [q,he]at ho
  cases ho
  exact nf vs hd
 refine aa (wpAny_frameOf_fun hfr hl hf fun h1 sl1=>aa (wpAny_entryPlaceOf fun pl hpl=> ?_))
 unfold EntryCells.newEntry newFields
 refine aa (bb ?_ (hpl.sizeOk5 _ _ _ _ _))
 have e1:h1.get? e=some oe:=(sl1.2.1 e fun m=>nofr e m rfl).trans he
 generalize hO:({cls:= .type "traceback",dict:=none,data:= .fields ([head, .ref L, .none,d_ L, .none] ++ (if pl.isEmpty then gT 6 aY else pl)).toArray}:Obj)=oT
 have dT: ∃ts:Array Value,oT.data= .fields ts/\3 < ts.size:=⟨_,by rw [<-hO],by simp only [az,ao,aH]; omega⟩
 have fT:oT.isFreed=false:=by obtain⟨ts,q,_⟩:=dT; exact ju q
 have e2:(h1.push oT).get? e=some oe:=ag _ e1
 have t2:(h1.push oT).get? h1.objs.size=some oT:=aw _ fT
 have ne:h1.objs.size≠e:=bP (au e1)
 refine cX e2 hd hsz ?_
 generalize hU:(h1.push oT).update e (dW (·.setIfInBounds 1 (ak h1.objs.size)))=h3
 have d3:=gu hd (·.setIfInBounds 1 (ak h1.objs.size))
 have e3:h3.get? e=some (dW (·.setIfInBounds 1 (ak h1.objs.size)) oe):=by rw [<-hU]; exact cT _ e2 (ju d3)
 have k3: ∀b,b≠e->h3.get? b=(h1.push oT).get? b:=fun b hb=>by rw [<-hU]; exact cf _ _ hb.symm
 have t3:h3.get? h1.objs.size=some oT:=(k3 _ ne).trans t2
 obtain⟨ts,dts,lts⟩:=dT
 unfold y6
 refine aa (bz e3 d3 (x:= .ref h1.objs.size) (by simp [hsz]) ?_)
 rw [if_pos (show(ak h1.objs.size !=aY)=true from by simp)]
 refine cX t3 dts lts (h _ h1.objs.size ⟨mV sl1.1.symm,⟨ne,⟨_,_, ?_,Obj.cls_mapFields _ _,d3,by simp [hsz],(DV _ _).trans hdn⟩,⟨_,_,cT _ t3 (ju (gu dts _)),gu dts _,by simp [lts]⟩⟩,fun b o n1 n2 q=> ?_,fun b o m q=> ?_⟩)
 ·rw [cf _ _ ne]
  exact e3
 ·have q1:h1.get? b=some o:=(sl1.2.1 b n2).trans q
  have nb:h1.objs.size≠b:=bP (au q1)
  rw [cf _ _ nb,k3 b fun z=>n1 (by simp [z])]
  exact ag _ q1
 ·obtain⟨sl,q1⟩:=sl1.2.2 b o q
  have nb:h1.objs.size≠b:=bP (au q1)
  refine⟨sl, ?_⟩
  rw [cf _ _ nb,k3 b (nofr b m)]
  exact ag _ q1
theorem xQ{base:Heap}{env:Env}{outer:List Env}{L e:Addr}{oe:Obj}{vs:Array Value}{Q:Unit->ah->Prop}(hfr:A.frames=some (env::outer))(hl:s.heap.FunFrames base (env::outer))(hf:env.frame=some L)
  (he:s.heap.get? e=some oe)(hd:oe.data= .fields vs)(h1:vs[1]? =some .none)(hdn:oe.dict=none)(h: ∀h' T,xm (env::outer) [e] e T oe.cls s.heap h'->Q () {s with heap:=h'}):wpAny M A (leaving env (.ref e)) Q E s:=by
 unfold leaving tZ
 simp only [hf]
 refine aa (aa (bz he hd h1 ?_))
 rw [if_neg (by decide)]
 exact oE hfr hl hf he hd (bU.mp h1).1 hdn h
theorem zC{base:Heap}{env:Env}{outer:List Env}{L e T:Addr}{cls:Value}{Q:Unit->ah->Prop}(hfr:A.frames=some (env::outer))(hl:s.heap.FunFrames base (env::outer))(hf:env.frame=some L)(ht:JX s.heap e T cls)
  (h: ∀h' T',xm (env::outer) [e,T] e T' cls s.heap h'->Q () {s with heap:=h'}):wpAny M A (leaving env (.ref e)) Q E s:=by
 obtain⟨ne,⟨oe,vs,he,hc,hd,h1,hdn⟩,oT,ts,hT,hdT,h3⟩:=ht
 subst hc
 unfold leaving tZ
 simp only [hf]
 refine aa (aa (bz he hd h1 ?_))
 rw [if_pos (show(ak T !=aY)=true from by simp)]
 refine aa (bz hT hdT h3 ?_)
 rw [if_neg (show ¬((aY==d_ L)=true)from by simp [d_])]
 refine aa (cX hT hdT (bU.mp h3).1 ?_)
 have k: ∀b,b≠T->(s.heap.update T (dW (·.setIfInBounds 3 aY))).get? b=s.heap.get? b:=fun b hb=>cf _ _ hb.symm
 have nfT: ∀b∈GP (env::outer),b≠T:=fun b hb q=>by
  obtain⟨_,o,ho,nf⟩:=hl.mem hb
  rw [q,hT]at ho
  cases ho
  exact nf ts hdT
 refine oE (s:={s with heap:=s.heap.update T (dW (·.setIfInBounds 3 aY))}) hfr (hl.of_keeps fun b o q nf=>⟨o,(k b fun z=> ?_).trans q,rfl⟩) hf ((k e ne.symm).trans he) hd (bU.mp h1).1 hdn fun h' T' x=>h h' T' ⟨?_,x.tr,fun b o n1 n2 q=> ?_,fun b o m q=> ?_⟩
 ·rw [z,hT]at q
  cases q
  exact nf ts hdT
 ·have:=x.new
  rw [show(Ct {s with heap:=s.heap.update T (dW (·.setIfInBounds 3 aY))}).objs.size=s.heap.objs.size from Heap.size_after_update ..]at this
  exact this
 ·exact x.keep b o (fun z=>n1 (by simp at z; simp [z])) n2 ((k b fun z=>n1 (by simp [z])).trans q)
 ·exact x.slot b o m ((k b (nfT b m)).trans q)
end
end Z
namespace Z
open PySem PySem.Spec PyProof.Rows L2
def gI(P:aq)(w:World):f9:=fun outer H s E e s'=> ∃(a T C:Addr) (H':Hp),e= .ref a/\s'.os=s.os/\lJ s'.gens/\Un (sT outer) [] H H' s.heap s'.heap/\n_ P w H' s'.heap/\s.heap.get? a=none/\s.heap.get? T=none/\H' a=none/\H' T=none/\JX s'.heap a T (.ref C)/\E (.ref C) none H'
theorem kA{P:aq}{w:World}: ∀l H s e s',gI P w l H s E0 e s'->False:=fun _ _ _ _ _ ⟨_,_,_,_,_,_,_,_,_,_,_,_,_,_,z⟩=>z
section
variable {P:aq}{w:World}{H:Hp}{h:Heap}{a:Addr}{o:HO}
theorem BH(x:fC P w H h a o): ∃u,h.get? a=some u:=by
 cases o with
 | lst xs=>obtain⟨_,_,_,_,e⟩:=x; exact⟨_,e⟩
 | tup xs=>obtain⟨_,_,_,o,e,_⟩:=x; exact⟨_,e⟩
 | dK kvs=>obtain⟨_,_,_,_,o,_,_,e,_⟩:=x; exact⟨_,e⟩
 | dT kvs=>obtain⟨_,_,xs,_,o,es,ep,e,_⟩:=x; exact⟨_,e⟩
 | set S n=>obtain⟨o,es,ep,t,e,_⟩:=x; exact⟨_,e⟩
 | ins C dx fs=>obtain⟨_,_,_,e,_⟩:=x; exact⟨_,e⟩
 | own b=>exact x
 | xd fs=>obtain⟨_,⟨_,_,_,e,_⟩,_⟩:=x; exact⟨_,e⟩
 | rng lo hi=>obtain⟨_,_,_,e⟩:=x; exact⟨_,e⟩
 | frz o u=>exact⟨_,x.1⟩
 | tbl ps=>exact⟨_,x⟩
 | met f y=>exact⟨_,x⟩
 | ext φ=>exact x.2.1
theorem DD(x:n_ P w H h)(e:h.get? a=none):H a=none:=by
 cases q:H a with
 | none=>rfl
 | some o=>
  obtain⟨u,z⟩:=BH (x a o q)
  rw [e]at z; cases z
end
section
variable {X:Cx}{pins:List (Addr×Obj)}{σ:St}{H:Hp}{s:ah}{h':Heap}{ch:List Addr}{e T:Addr}{cls:Value}
theorem xl(I:Inv X pins σ H s)(hst:X.stack=X.env::X.outer)(hex:X.ex= [])(hf:X.env.frame=some X.env.locals)(x:xm (X.env::X.outer) ch e T cls s.heap h')(hch: ∀b∈ch,H b=none/\X.s₀.heap.get? b=none):
  Un (sT X.outer) [] X.H₀ H X.s₀.heap h'/\n_ X.prog X.w H h':=by
 have B:Un (sT X.outer) [] X.H₀ H X.s₀.heap s.heap:=by have:=I.base; rwa [hex]at this
 have nch: ∀b o,X.s₀.heap.get? b=some o->b∉ch:=fun b o q m=>by rw [(hch b m).2]at q; cases q
 have frl: ∀b,b∈GP (X.env::X.outer)↔b=X.env.locals\/b∈sT X.outer:=fun b=>by
  show b∈List.filterMap (·.frame) (X.env::X.outer)↔_
  rw [kc,hf]
  exact aK
 have nL: ∀b o,X.s₀.heap.get? b=some o->b≠X.env.locals:=fun b o q=>aE (aX (au q) I.ok.above)
 refine⟨⟨fun b o q n hb _=> ?_,fun b o q n hb hx=> ?_,fun b o q n hx=>B.free b o q n hx,fun b o q hx=> ?_,B.sQ,B.qD,B.rE⟩,fun b u q=> ?_⟩
 ·exact x.keep b o (nch b o q) (fun m=>((frl b).mp m).elim (nL b o q) hb) (B.keep b o q n hb (by simp))
 ·obtain⟨sl,q1⟩:=B.slot b o q n hb hx
  obtain⟨sl',q2⟩:=x.slot b _ ((frl b).mpr (.inr hb)) q1
  exact⟨sl',q2⟩
 ·obtain⟨o',q1⟩:=B.there b o q hx
  by_cases m:b∈GP (X.env::X.outer)
  ·obtain⟨sl,q2⟩:=x.slot b o' m q1
   exact⟨_,q2⟩
  ·exact⟨o',x.keep b o' (nch b o q) m q1⟩
 ·have ok: ∀c v,H c=some v->c∉ch/\c∉GP (X.env::X.outer):=fun c v z=>by
   refine⟨fun m=> ?_,fun m=> ?_⟩
   ·rw [(hch c m).1]at z
    cases z
   ·have:=I.stkFree c (by rw [hst]; exact m)
    rw [this]at z
    cases z
  refine(I.dO b u q).stay (fun c v hc z=> ?_) (fun _ z=>z) fun _ _ z=>z
  have:=hc.elim (fun z=>by rw [z]; exact ok b u q) fun z=>ok c _ z
  exact x.keep c v this.1 this.2 z
end
section
variable {P:aq}{w:World}{K:Frag}{mg:Str->Option Value}{base:Heap}{N:List Str}{qual:Str}{scope:Scope}{f:Addr}{cd:Value}{A:bh}{outer:List Env}{s0:ah}{H0:Hp}{E:XK}
abbrev xH(P:aq)(w:World)(K:Frag)(mg:Str->Option Value)(base:Heap)(N:List Str)(qual:Str)(scope:Scope)(f:Addr)(cd:Value)(A:bh)(outer:List Env)(s0:ah)(H0:Hp)(E:XK):Cx:=kz (gI P w) P w K mg base N qual scope f cd A outer s0 H0 E
theorem zG{pins:List (Addr×Obj)}{σ:St}{H:Hp}{s:ah}{h1:Heap}{e C:Addr}{vs:List Value}(I:Inv (xH P w K mg base N qual scope f cd A outer s0 H0 E) pins σ H s)(m:Heap.MadeExcOf s.heap h1 e (.ref C) vs)(hE:E (.ref C) none H):
  (xH P w K mg base N qual scope f cd A outer s0 H0 E).xe (.ref e) {s with heap:=h1}:=by
 have I1:Inv (xH P w K mg base N qual scope f cd A outer s0 H0 E) pins σ H {s with heap:=h1}:=I.kept (t':=s.toks) m.keeps
 obtain⟨t,he,_,_⟩:=m.there
 have n0:s0.heap.get? e=none:=by
  cases q:s0.heap.get? e with
  | none=>rfl
  | some o=>
   obtain⟨o',z⟩:=I.base.there e o q (by simp [kz])
   rw [m.new]at z; cases z
 refine xQ (s:={s with heap:=h1}) (base:=base) I1.ok.frames I1.stack rfl he rfl rfl rfl fun h2 T x=> ?_
 have hH:H e=none:=DD I.dO m.new
 obtain⟨u,hk⟩:=xl I1 rfl rfl rfl x (fun b hb=>by
  have:b=e:=by simpa using hb
  subst this
  exact⟨hH,n0⟩)
 have nT:s0.heap.get? T=none:=oW (bu I1.sz x.new)
 exact⟨e,T,C,H,rfl,I.os,I.bare,u,hk,n0,nT,hH,I1.dO.fresh x.new,x.tr,hE⟩
theorem kn:Passes (gI P w) (xH P w K mg base N qual scope f cd A outer s0 H0 E) E:=by
 intro pins σ H s e s' I ⟨a,T,C,H',ee,os,bare,un,dO,na,nT,ha,hT,tr,hE⟩
 subst ee
 obtain⟨hh,g,d,tk,os'⟩:=s'
 obtain rfl:os'=s.os:=os
 have I1:Inv (xH P w K mg base N qual scope f cd A outer s0 H0 E) pins σ H' {s with heap:=hh,gens:=g,drawn:=d,toks:=tk}:=I.call (h':=hh) (g':=g) (d':=d) (t':=tk) (ch:= []) un dO bare (fun b z=>absurd z (by simp))
 have n0: ∀b,s.heap.get? b=none->s0.heap.get? b=none:=fun b z=>by
  cases q:s0.heap.get? b with
  | none=>rfl
  | some o=>
   obtain⟨o',z'⟩:=I.base.there b o q (by simp [kz])
   rw [z]at z'; cases z'
 refine zC (s:={s with heap:=hh,gens:=g,drawn:=d,toks:=tk}) (base:=base) I1.ok.frames I1.stack rfl tr fun h2 T' x=> ?_
 obtain⟨u,hk⟩:=xl I1 rfl rfl rfl x (fun b hb=>by
  have:b=a\/b=T:=by simpa using hb
  rcases this with rfl | rfl
  ·exact⟨ha,n0 _ na⟩
  ·exact⟨hT,n0 _ nT⟩)
 have nT':s0.heap.get? T'=none:=oW (bu I1.sz x.new)
 exact⟨a,T',C,H',rfl,I.os,bare,u,hk,n0 _ na,nT',ha,I1.dO.fresh x.new,x.tr,hE⟩
end
abbrev zb:List Value:= [.type "ValueError", .type "Exception", .type "BaseException", .type "object"]
structure ym(x:Str)(C:Addr)(mg:Str->Option Value)(base:Heap):Prop where
 ex: ∃(newId Bn inN:String) (bmN:List Value),OwnCls x C zb newId mg base/\ExcBaseFacts Bn newId inN bmN/\zb.contains (.type Bn)=true
def Ea(X:Cx)(ρ:eT)(E:XK)(e:Expr)(C:Addr):Prop:= ∀(M0:MP) (H0:Hp) (γ:List (D×V)) (α:Nat->Addr) (σ:St) (H:Hp) (Q:VK),Rep X.K M0 H0 γ α ρ σ H->(∀a H',bJ H H'->E (.ref C) a H')->tE X e σ H Q
def uB(X:Cx)(ρ:eT)(E:XK)(st:Stmt)(C:Addr):Prop:= ∀(M0:MP) (H0:Hp) (γ:List (D×V)) (α:Nat->Addr) (σ:St) (H:Hp) (En:Ends),Rep X.K M0 H0 γ α ρ σ H->(∀a H',bJ H H'->E (.ref C) a H')->tS X st En σ H
def fB(X:Cx)(ρ:eT)(E:XK)(st:List Stmt)(C:Addr):Prop:= ∀(M0:MP) (H0:Hp) (γ:List (D×V)) (α:Nat->Addr) (σ:St) (H:Hp) (En:Ends),Rep X.K M0 H0 γ α ρ σ H->(∀a H',bJ H H'->E (.ref C) a H')->nj X st En σ H
section
variable {X:Cx}{ρ:eT}{E:XK}{e c:Expr}{es:List Expr}{st:Stmt}{sts s1 s2:List Stmt}{C:Addr}{d:D}{pos p pos':Pos}{CX:f9}{k:Nat}{x:Str}{ι:Type}{args:ι->List D}{pre:ι->Prop}{res:ι->Except Addr D}
theorem Ea.call{i:ι}(F:lO X.prog X.w X.K X.mg X.base CX k x args pre res)(hr:fq k X.A)(hx:Passes CX X E)(hg:Gl X x)(ha:aP X ρ (e::es) (args i))(hp:pre i)(hres:res i= .error C)(hdb:(x==("__debug__":Str))=false:=by decide)
  (he:ar (e::es) X.env=(false,eval e X.env)::ar es X.env:=by rfl)(hpl:(dZ pos (ar es X.env)).any (·.1)=false:=by rfl):Ea X ρ E (.Call (.Name x p) (e::es) [] pos) C:=fun M0 H0 γ α σ H Q R kE=>by
 obtain⟨f,fd,ps,F,hm,hk,hb⟩:=F.ex
 refine(vV F hr hg hm hk hb .nil hx wu hdb he hpl).to (ha M0 H0 γ α σ H _ R fun vs H1 s1 d1=> ?_)
 show lQ X.K args pre res (vs ++ []) H1 Q E
 rw [aZ]
 exact⟨i,MM M0 ρ α,iH R s1,d1,hp,(fun d' e=>by rw [hres]at e; cases e),(fun C' e a H2 s2=>by rw [hres]at e; cases e; exact kE a H2 (s1.trans s2))⟩
theorem uB.expr(h:Ea X ρ E e C)(hs:cQ e none pos.line X.env=pure false:=by rfl):uB X ρ E (.Expr e pos) C:=fun M0 H0 γ α σ H En R kE=>(nB g7 hs).to (h M0 H0 γ α σ H _ R kE)
theorem uB.ite{t:Bool}(h:cG X ρ c t)(h1:t=true->fB X ρ E s1 C)(h2:t=false->fB X ρ E s2 C):uB X ρ E (.If c s1 s2 pos) C:=fun M0 H0 γ α σ H En R kE=>
 (xN CB fK fK).to (h M0 H0 γ α σ H _ R fun H1 s=>by
  cases e:t with
  | true=>exact sS (h1 e M0 H0 γ α σ H1 _ (R.next s) fun a H' s'=>kE a H' (s.trans s'))
  | false=>exact qE (h2 e M0 H0 γ α σ H1 _ (R.next s) fun a H' s'=>kE a H' (s.trans s')))
theorem fB.here(h:uB X ρ E st C):fB X ρ E (st::sts) C:=fun M0 H0 γ α σ H En R kE=>(dq sN fK).to (h M0 H0 γ α σ H _ R kE)
theorem fB.expr(h:av X ρ e d)(k:fB X ρ E sts C)(hs:cQ e none pos.line X.env=pure false:=by rfl):fB X ρ E (.Expr e pos::sts) C:=fun M0 H0 γ α σ H En R kE=>
 (dq sN fK).to ((nB g7 hs).to (h M0 H0 γ α σ H _ R fun v H' s _=>k M0 H0 γ α σ H' En (R.next s) fun a H2 s2=>kE a H2 (s.trans s2)))
end
section
variable {P:aq}{w:World}{K:Frag}{mg:Str->Option Value}{base:Heap}{N:List Str}{qual:Str}{scope:Scope}{f:Addr}{cd:Value}{A:bh}{outer:List Env}{s0:ah}{H0:Hp}{E:XK}
theorem uB.raise{ρ:eT}{x:Str}{C:Addr}{e:Expr}{d:D}{np cpos pos:Pos}(O:ym x C mg base)(hg:Gl (xH P w K mg base N qual scope f cd A outer s0 H0 E) x)(he:av (xH P w K mg base N qual scope f cd A outer s0 H0 E) ρ e d)
  (hs:ar [e] (xH P w K mg base N qual scope f cd A outer s0 H0 E).env= [(false,eval e (xH P w K mg base N qual scope f cd A outer s0 H0 E).env)]:=by rfl)(hdb:(x==("__debug__":Str))=false:=by decide):
  uB (xH P w K mg base N qual scope f cd A outer s0 H0 E) ρ E (.Raise (some (.Call (.Name x np) [e] [] cpos)) none pos) C:=fun M0 Hb γ α σ H En R kE pins s I=>by
 obtain⟨newId,Bn,inN,bmN,O,Fn,hBn⟩:=O.ex
 obtain⟨tl,N',nm,q,bs,hdct,sn,sub,ab,col,dd,k0,k1,k2,k3,k5,mN,hC,hN,hni,T⟩:=O.obj
 have hlen: ∀us:List Value,us.length=1->us.length<=sizeLine:=fun us h=>by rw [h]; decide
 refine wpAny_Raise_call_subU (C:=C) (nm:=nm) (q:=q) (N:=N') (bs:=bs) (bm:=tl) (hdct:=hdct) (sn:=sn) (sub:=sub) (ab:=ab) (col:=col) (dd:=dd) (k0:=k0) (k1:=k1) (k2:=k2) (k3:=k3) (k5:=k5) (newId:=newId) Fn hBn wW (mN:=mN) (T.hasType wW.hasBase) (I.ok.hd rfl) (by rw [hs]; rfl) hni (lT I hg O.bound ⟨rfl, ?_⟩ hdb)
 have run:=(dG (g7 (X:=xH P w K mg base N qual scope f cd A outer s0 H0 E) (e:=e)) gG hs) cpos pins s σ H (fun vs H1=>vs.length=1/\bJ H H1) I (he M0 Hb γ α σ H _ R fun v H1 s1 _=>⟨rfl,s1⟩)
 rw [hs]at run ⊢
 refine Calls.evalArgs_plain (bN run (fun us s2 h2=> ?_) fun _ _ z=>z)
 obtain⟨vs,H1,I2,r2,l1,sm⟩:=h2
 have kp: ∀b o,base.get? b=some o->s2.heap.get? b=some o:=I2.bk
 exact⟨rfl,hlen us (r2.length▸l1),kp _ _ hC,hN.keeps kp,T.keeps kp,fun h' ex m=>zG I2 m (kE none H1 sm)⟩
end
section
variable {P:aq}{w:World}{K:Frag}{mg:Str->Option Value}{base:Heap}{k:Nat}{x qual:Str}{st:Stmt}{f:Addr}{fd:aV}{N ps:List Str}{ι:Type}{args:ι->List D}{pre:ι->Prop}{res:ι->Except Addr D}
theorem nq(F:jo K x qual st f fd)(S:bL N ps (aF st))(hm:mg x=some (.ref f))(hb:Binds K fd ps [])(hl: ∀i,(args i).length=ps.length)
  (body: ∀(cdv:Value) (A:bh) (outer:List Env) (s:ah) (H:Hp) (E:XK) (i:ι) (M0:MP),pre i->fq k (A.deeper (j8 qual (aF st) s.heap.objs.size f cdv))->
   (∃d,res i= .ok d/\WS (xH P w K mg base N qual (aF st) f cdv A outer s H E).nox M0 H (ba st) (qI N (args i)) {N:=fun _=>d= .non,R:=fun d'=>d'=d})\/
   ∃C,res i= .error C/\fB (xH P w K mg base N qual (aF st) f cdv A outer s H E) (qI N (args i)) E (ba st) C):lO P w K mg base (gI P w) (k+1) x args pre res:=by
 refine⟨f,fd,ps, ?_,hm,F.kp,hb⟩
 obtain⟨oc,od,kV,doc,pm,an,cdv,ct,osl,rfl,lk,hcd⟩:=F.ex
 refine xY lk hcd S (fun vs H Q E ⟨i,M0,_,h,_⟩=>by rw [h.len,hl]) fun A outer s H vs Q E hr hsp=> ?_
 obtain⟨i,M0,hM,h,hp,k1,k2⟩:=hsp
 rcases body cdv A outer s H E i M0 hp hr with⟨d,hd,ws⟩ | ⟨C,hC,rs⟩
 ·refine⟨nj _ (ba st),(fK (X:=(xH P w K mg base N qual (aF st) f cdv A outer s H E).nox)).nox, ?_⟩
  refine nj.mono (En:=ends K M0 H [] {N:=fun _=>d= .non,R:=fun d'=>d'=d}) (fun σ' H' ⟨α,ρ,R,e⟩=> ?_) (fun v H' ⟨d',e,sm,dn⟩=> ?_) (fun _ _ ⟨_,_,_,z⟩=>z.elim) (fun _ _ ⟨_,_,_,z⟩=>z.elim) (ws [] (fun _=>0) _ H (rep0 hM h))
  ·exact k1 d hd .non H' R.same (by rw [e]; exact rfl)
  ·subst e
   exact k1 _ hd v H' sm dn
 ·exact⟨nj _ (ba st),fK (X:=xH P w K mg base N qual (aF st) f cdv A outer s H E),rs M0 H [] (fun _=>0) _ H _ (rep0 hM h) fun a H' sm=>k2 C hC a H' sm⟩
end
abbrev yg(A:bh):bh:={A with handled:=none}
abbrev Cx.loud(X:Cx):Cx:={X with calm:=false}
structure EH(P:aq)(w:World)(K:Frag)(mg:Str->Option Value)(base:Heap)(CX:f9)(k:Nat)(f:Addr)(fd:aV)(ps:List Str)(sp:Sp):Prop where
 len: ∀vs H Q E,sp vs H Q E->vs.length=ps.length
 run: ∀(A:bh) (outer:List Env) (s:ah) (H:Hp) (args:Args) (us:List Value) (vs:List V) (Q:VK) (E:XK),fq k (yg A)->vJ P w K mg base A outer s H->vi s fd args (ps.zip us)->Vals vs us->sp vs H Q E->
  fu (model P w) A (.call (.ref f) args) (CR CX outer P w H s Q E) s
theorem CW{CX:f9}{P:aq}{w:World}{K:Frag}{mg:Str->Option Value}{base:Heap}{N:List Str}{qual:Str}{scope:Scope}{f:Addr}{cd:Value}{A:bh}{outer:List Env}{s s1:ah}{H H1:Hp}{E:XK}{pins:List (Addr×Obj)}{σ:St}
  (I:Inv (kz CX P w K mg base N qual scope f cd (yg A) outer s H E) pins σ H1 s1):Inv (Cx.loud (kz CX P w K mg base N qual scope f cd A outer s H E)) pins σ H1 s1:=
 ⟨⟨I.ok.mod,I.ok.kind,I.ok.glob,I.ok.blt,I.ok.above,I.ok.inj,I.ok.has,I.ok.CD,fun h=>absurd h aA,I.ok.frames,I.ok.qM,I.ok.GN,I.ok.bs,I.ok.wX,I.ok.pZ,I.ok.rD,I.ok.ll,I.ok.zg⟩,I.os,I.bare,I.base,I.loc,I.cell,I.free,I.iJ,I.pin,I.dO,I.len⟩
theorem Je{CX:f9}{P:aq}{w:World}{K:Frag}{mg:Str->Option Value}{base:Heap}{k:Nat}{f:Addr}{name qual:Str}{params:Arguments}{body:List Stmt}{scope:Scope}{dV kV doc pm cdv ct oc:Value}{an od:Option Addr}
  {osl:Array (Option Value)}{N ps:List Str}{sp:Sp}(lk:K.lookup f=some ⟨oc,od, .func (c5 name qual params body scope dV kV doc pm an cdv ct),osl⟩)(hcd:kS K cdv qual=true)(S:bL N ps scope)
  (len: ∀vs H Q E,sp vs H Q E->vs.length=ps.length)
  (hbody: ∀(A:bh) (outer:List Env) (s:ah) (H:Hp) (vs:List V) (Q:VK) (E:XK),fq k (yg (A.deeper (j8 qual scope s.heap.objs.size f cdv)))->sp vs H Q E->
   nj (Cx.loud (kz CX P w K mg base N qual scope f cdv A outer s H E)).nox body {nx:=fun _ H'=>Q .non H',rt:=Q} (start N vs) H):
  EH P w K mg base CX (k+1) f (c5 name qual params body scope dV kV doc pm an cdv ct) ps sp:=by
 refine⟨len,fun A outer s H args us vs Q E hr e0 hb r hsp=> ?_⟩
 have hl:=len _ _ _ _ hsp
 have KX:K.In s.heap:=e0.mod.vc.keeps fun b o e=>(e0.bs b o e).1
 have lim:s.heap.NoLimit:=e0.mod.nolimit.keeps fun b o e=>(e0.bs b o e).1
 have hkind: ∀y∈ps.zip us,scope.names.lookup y.1=some .local\/(scope.names.lookup y.1=some .cell/\((cellsFrom (s.heap.objs.size+1) scope.names []).lookup y.1).isSome=true):=fun⟨n,v⟩ hy=>
  (S.par n (nP hy).1).elim .inl fun q=> .inr ⟨q,z6 _ _ _ (.inl q)⟩
 have hdep:=hr.depth
 refine codeAny_call_function (A:=A) hdep (KX _ _ lk) rfl S.co S.gen rfl (PySem.W.codeRec_of KX hcd) (hb _ _ _ _ ?_)
 refine wpAny_newFunctionEnv_cells S.kind hkind fun env he s1 x=> ?_
 subst he
 refine⟨lim.keeps x.toInCall.keep,codeAny_func ?_⟩
 have e1:vJ P w K mg base (yg A) outer s H:=⟨e0.frames,e0.mod,e0.bs,e0.wX,e0.ll,e0.zg,e0.dO,e0.bare⟩
 have I:=CW (CX:=CX) (A:=A) (E:=E) (uV (A:=yg A) (CX:=CX) (E:=E) S rfl e1 hl r x)
 have t:=hbody A outer s H vs Q E (hr.deeper _) hsp
 have I':Inv (Cx.loud (kz CX P w K mg base N qual scope f cdv A outer s H E)).nox [] (start N vs) H s1:=⟨⟨I.ok.mod,I.ok.kind,I.ok.glob,I.ok.blt,I.ok.above,I.ok.inj,I.ok.has,I.ok.CD,I.ok.hd,I.ok.frames,I.ok.qM,I.ok.GN,I.ok.bs,I.ok.wX,I.ok.pZ,I.ok.rD,I.ok.ll,I.ok.zg⟩,I.os,I.bare,I.base,I.loc,I.cell,I.free,I.iJ,I.pin,I.dO,I.len⟩
 refine bN (t [] s1 I') (fun fl s' hs=> ?_) fun e s' hs=>hs.elim
 cases fl with
 | ret u=>obtain⟨v,σ',H',J,rv,q⟩:=hs; exact⟨v,H',J.os,J.bare,J.base,J.dO,rv,q⟩
 | next=>obtain⟨σ',H',J,q⟩:=hs; exact⟨.non,H',J.os,J.bare,J.base,J.dO,rfl,q⟩
 | brk=>obtain⟨_,_,_,q⟩:=hs; exact cE q
 | cont=>obtain⟨_,_,_,q⟩:=hs; exact cE q
structure Ju(P:aq)(w:World)(K:Frag)(mg:Str->Option Value)(base:Heap)(CX:f9)(k:Nat)(x:Str){ι:Type}(args:ι->List D)(pre:ι->Prop)(res:ι->D):Prop where
 ex: ∃(f:Addr) (fd:aV) (ps:List Str),EH P w K mg base CX k f fd ps (lQ K args pre fun i=> .ok (res i))/\mg x=some (.ref f)/\eY K (.ref f)=true/\Binds K fd ps []
section
variable {X:Cx}{ρ:eT}{e:Expr}{es:List Expr}{d:D}{pos p:Pos}{CX:f9}{k:Nat}{x:Str}{ι:Type}{args:ι->List D}{pre:ι->Prop}{res:ι->D}
theorem Gx{pins:List (Addr×Obj)}{σ:St}{H:Hp}{s:ah}{Q:VK}{us:List Value}{vs:List V}{f:Addr}{fd:aV}{ps:List Str}{sp:Sp}{E:XK}(F:EH X.prog X.w X.K X.mg X.base CX k f fd ps sp)(hr:fq k (yg X.A))(hb:Binds X.K fd ps [])(hx:Passes CX X E)
  (I:Inv X pins σ H s)(r:Vals vs us)(h:sp vs H Q E):wpAny (model X.prog X.w) X.A (call (.ref f) us) (EP X pins σ Q) X.xe s:=by
 have hl:us.length=ps.length:=by rw [<-r.length]; exact F.len _ _ _ _ h
 have hbt:=hb s us I.kIn (by rw [aZ]; exact hl)
 rw [aZ]at hbt
 refine wL (ja (F.run X.A X.stack s H ⟨us, []⟩ us vs Q E hr I.env0 hbt r h) fun r s' hq=> ?_)
 cases r with
 | error e=>exact hx pins σ H s e s' I hq
 | ok fl=>
  cases fl with
  | ret u=>exact I.after hq
  | next=>exact cE hq
  | brk=>exact cE hq
  | cont=>exact cE hq
theorem av.callH{i:ι}(F:Ju X.prog X.w X.K X.mg X.base CX k x args pre res)(hr:fq k (yg X.A))(hx:Passes CX X E0)(hg:Gl X x)(ha:aP X ρ (e::es) (args i))(hp:pre i)(hres:res i=d)(hdb:(x==("__debug__":Str))=false:=by decide)
  (he:ar (e::es) X.env=(false,eval e X.env)::ar es X.env:=by rfl)(hpl:(dZ pos (ar es X.env)).any (·.1)=false:=by rfl):av X ρ (.Call (.Name x p) (e::es) [] pos) d:=fun M0 H0 γ α σ H Q R kk=>by
 obtain⟨f,fd,ps,F,hm,hk,hb⟩:=F.ex
 intro pins s I
 refine iT (lT I hg hm ?_ hdb)
 have run:=wu (X:=X) (es:=e::es) pos pins s σ H (fun vs H1=>bJ H H1/\cA X.K (MM M0 ρ α) H1 (args i) vs) I (ha M0 H0 γ α σ H _ R fun vs H1 s1 d1=>⟨s1,d1⟩)
 refine ql (h₀:=X.base) I.ok.mod.vc hk (eN run fun us s1 ⟨vs,H1,I1,r,sm,d1⟩=>⟨I1.kIn, ?_⟩) he hpl
 exact Gx F hr hb hx I1 r ⟨i,MM M0 ρ α,iH R sm,d1,hp,(fun d' e v H2 s2 dn=>by cases e; exact kk v H2 (sm.trans s2) (hres▸dn)),fun C e=>by cases e⟩
end
section
variable {P:aq}{w:World}{K:Frag}{mg:Str->Option Value}{base:Heap}{CX:f9}{k:Nat}{x qual:Str}{st:Stmt}{f:Addr}{fd:aV}{N ps:List Str}{ι:Type}{args:ι->List D}{pre:ι->Prop}{res:ι->D}
theorem He(F:jo K x qual st f fd)(S:bL N ps (aF st))(hm:mg x=some (.ref f))(hb:Binds K fd ps [])(hl: ∀i,(args i).length=ps.length)
  (body: ∀(cdv:Value) (A:bh) (outer:List Env) (s:ah) (H:Hp) (E:XK) (i:ι) (M0:MP),pre i->fq k (yg (A.deeper (j8 qual (aF st) s.heap.objs.size f cdv)))->
   WS (Cx.loud (kz CX P w K mg base N qual (aF st) f cdv A outer s H E)).nox M0 H (ba st) (qI N (args i)) {N:=fun _=>res i= .non,R:=fun d'=>d'=res i}):Ju P w K mg base CX (k+1) x args pre res:=by
 refine⟨f,fd,ps, ?_,hm,F.kp,hb⟩
 obtain⟨oc,od,kV,doc,pm,an,cdv,ct,osl,rfl,lk,hcd⟩:=F.ex
 refine Je lk hcd S (fun vs H Q E ⟨i,M0,_,h,_⟩=>by rw [h.len,hl]) fun A outer s H vs Q E hr hsp=> ?_
 obtain⟨i,M0,hM,h,hp,k1,k2⟩:=hsp
 refine nj.mono (En:=ends K M0 H [] {N:=fun _=>res i= .non,R:=fun d'=>d'=res i}) (fun σ' H' ⟨α,ρ,R,e⟩=> ?_) (fun v H' ⟨d',e,sm,dn⟩=> ?_) (fun _ _ ⟨_,_,_,z⟩=>z.elim) (fun _ _ ⟨_,_,_,z⟩=>z.elim) (body cdv A outer s H E i M0 hp hr [] (fun _=>0) _ H (rep0 hM h))
 ·exact k1 _ rfl .non H' R.same (by rw [e]; exact rfl)
 ·subst e
  exact k1 _ rfl v H' sm dn
end
section
variable {X:Cx}{ρ:eT}{M0:MP}{H0:Hp}{P:pM}{body:List Stmt}{h0:ExceptHandler}{hs:List ExceptHandler}{pos:Pos}
theorem W1.tryOk(hx: ∀e s,X.xe e s->False)(h:WS X M0 H0 body ρ P):W1 X M0 H0 (.Try body (h0::hs) [] [] pos) ρ P:=fun γ α σ H R pins s I=>by
 refine wpAny_Try_except (bN (h γ α σ H R pins s I) (fun f s1 q=> ?_) fun e s1 z=>(hx e s1 z).elim)
 cases f with
 | next=>exact nM q
 | ret u=>exact q
 | brk=>exact q
 | cont=>exact q
end
section
variable {M:Model}{A:bh}{E:Value->ah->Prop}{s:ah}
theorem Bc{base:Heap}{env:Env}{outer:List Env}{L e T:Addr}{cls:Value}{Q:Unit->ah->Prop}(hfr:A.frames=some (env::outer))(hl:s.heap.FunFrames base (env::outer))(hf:env.frame=some L)(ht:JX s.heap e T cls)
  (h: ∀h' T',xm (env::outer) [e,T] e T' cls s.heap h'->Q () {s with heap:=h'}):wpAny M A (tZ (.ref e) env) (fun _ s'=>wpAny M A (y6 (.ref e) none) Q E s') E s:=by
 obtain⟨ne,⟨oe,vs,he,hc,hd,h1,hdn⟩,oT,ts,hT,hdT,h3⟩:=ht
 subst hc
 unfold tZ
 simp only [hf]
 refine aa (bz he hd h1 ?_)
 rw [if_pos (show(ak T !=aY)=true from by simp)]
 refine aa (bz hT hdT h3 ?_)
 rw [if_neg (show ¬((aY==d_ L)=true)from by simp [d_])]
 refine aa (cX hT hdT (bU.mp h3).1 ?_)
 have k: ∀b,b≠T->(s.heap.update T (dW (·.setIfInBounds 3 aY))).get? b=s.heap.get? b:=fun b hb=>cf _ _ hb.symm
 have nfT: ∀b∈GP (env::outer),b≠T:=fun b hb q=>by
  obtain⟨_,o,ho,nf⟩:=hl.mem hb
  rw [q,hT]at ho
  cases ho
  exact nf ts hdT
 refine oE (s:={s with heap:=s.heap.update T (dW (·.setIfInBounds 3 aY))}) hfr (hl.of_keeps fun b o q nf=>⟨o,(k b fun z=> ?_).trans q,rfl⟩) hf ((k e ne.symm).trans he) hd (bU.mp h1).1 hdn fun h' T' x=>h h' T' ⟨?_,x.tr,fun b o n1 n2 q=> ?_,fun b o m q=> ?_⟩
 ·rw [z,hT]at q
  cases q
  exact nf ts hdT
 ·have:=x.new
  rw [show(Ct {s with heap:=s.heap.update T (dW (·.setIfInBounds 3 aY))}).objs.size=s.heap.objs.size from Heap.size_after_update ..]at this
  exact this
 ·exact x.keep b o (fun z=>n1 (by simp at z; simp [z])) n2 ((k b fun z=>n1 (by simp [z])).trans q)
 ·exact x.slot b o m ((k b (nfT b m)).trans q)
theorem flight_again{e T:Addr}{cls:Value}{Q:Unit->ah->Prop}(ht:JX s.heap e T cls)(h: ∀h',JX h' e T cls->(∀b,b≠T->h'.get? b=s.heap.get? b)->Q () {s with heap:=h'}):wpAny M A (y6 (.ref e) none) Q E s:=by
 obtain⟨ne,⟨oe,vs,he,hc,hd,h1,hdn⟩,oT,ts,hT,hdT,h3⟩:=ht
 have l3:=(bU.mp h3).1
 unfold y6
 refine aa (bz he hd h1 ?_)
 rw [if_pos (show(ak T !=aY)=true from by simp)]
 refine cX hT hdT l3 (h _ ⟨ne,⟨oe,vs, ?_,hc,hd,h1,hdn⟩,⟨_,_,cT _ hT (ju (gu hdT _)),gu hdT _,by simp [l3]⟩⟩ fun b hb=>cf _ _ hb.symm)
 rw [cf _ _ ne]
 exact he
end
section
variable {X:Cx}{pins:List (Addr×Obj)}{σ:St}{H H':Hp}{s:ah}{h':Heap}
theorem yF{g':Array wJ}{t':Nat}{d':Drawn}{ch:List Addr}(I:Inv X pins σ H s)(hch: ∀b∈ch,X.s₀.heap.get? b=none/\(∀o,s.heap.get? b=some o-> ∃vs,o.data= .fields vs)/\ ∀p∈X.pn ++ pins,p.1≠b)
  (keep: ∀b o,b∉ch->b∉sT X.stack->s.heap.get? b=some o->h'.get? b=some o)(slot: ∀b o,b∈sT X.stack->s.heap.get? b=some o-> ∃sl,h'.get? b=some {o with slots:=sl})
  (sm:bJ H H')(free: ∀b o,b∉ch->s.heap.get? b=some o->H b=none->H' b=none)(dO:n_ X.prog X.w H' h')(hg:lJ g'):Inv X pins σ H' {s with heap:=h',gens:=g',drawn:=d',toks:=t'}:=by
 have any: ∀b o,b∉ch->s.heap.get? b=some o-> ∃sl,h'.get? b=some {o with slots:=sl}:=fun b o n q=>by
  by_cases m:b∈sT X.stack
  ·exact slot b o m q
  ·exact⟨o.slots,keep b o n m q⟩
 have neC: ∀b o,X.s₀.heap.get? b=some o->b∉ch:=fun b o q m=>by rw [(hch b m).1]at q; cases q
 obtain⟨m,hn,hl⟩:=id I.loc
 obtain⟨oL,esL,epL,hoL,hdL,rL⟩:=id hn
 have nL:X.env.locals∉ch:=fun z=>by
  obtain⟨vs,q⟩:=(hch _ z).2.1 oL hoL
  rw [hdL]at q; cases q
 have cellK: ∀x c,X.env.cells.lookup x=some c-> ∀v,s.heap.IsCell c v->h'.IsCell c v/\c∉ch:=fun x c e v ⟨o,ho,hd⟩=>by
  have nc:c∉ch:=fun z=>by
   obtain⟨vs,q⟩:=(hch c z).2.1 o ho
   rw [hd]at q; cases q
  obtain⟨sl,q⟩:=any c o nc ho
  exact⟨⟨_,q,hd⟩,nc⟩
 have nfs: ∀b o,b∉X.fs->X.s₀.heap.get? b=some o->b∉sT X.stack:=fun b o nf q z=>by
  rcases aK.mp (I.stkSub b z)with w | w
  ·exact absurd w (aE (aX (au q) I.ok.above))
  ·exact nf w
 refine⟨I.ok,I.os,hg,⟨fun b o e n hb hx=> ?_,fun b o e n hb hx=> ?_,fun b o e n hx=> ?_,fun b o e hx=> ?_,fun b xs e=>sm _ _ (I.base.sQ b xs e),fun b o xs e=>sm _ _ (I.base.qD b o xs e),fun b ps e=> ?_⟩,⟨m, ?_,fun i x v e1 e2 e3=> ?_⟩,fun x c e=> ?_,free _ _ nL hoL I.free,fun x c e=> ?_,fun p hp=> ?_,dO,I.len⟩
 ·exact keep b o (neC b o e) (nfs b o hb e) (I.base.keep b o e n hb hx)
 ·obtain⟨sl,e1⟩:=I.base.slot b o e n hb hx
  obtain⟨sl',e2⟩:=any b _ (neC b o e) e1
  exact⟨sl',e2⟩
 ·obtain⟨o',e1⟩:=I.base.there b o e hx
  exact free b o' (neC b o e) e1 (I.base.free b o e n hx)
 ·obtain⟨o',e1⟩:=I.base.there b o e hx
  obtain⟨sl,e2⟩:=any b o' (neC b o e) e1
  exact⟨_,e2⟩
 ·obtain⟨m1,e1⟩:=I.base.rE b ps e
  exact⟨m1,sm _ _ e1⟩
 ·obtain⟨sl,e2⟩:=any _ oL nL hoL
  exact⟨_,esL,epL,e2,hdL,rL⟩
 ·obtain⟨u,r,l⟩:=hl i x v e1 e2 e3
  refine⟨u,r, ?_⟩
  rcases l with l | ⟨k,c,e,z⟩
  ·exact .inl l
  ·exact .inr ⟨k,c,e,(cellK x c e _ z).1⟩
 ·obtain⟨v,z⟩:=I.cell x c e
  exact⟨v,(cellK x c e v z).1⟩
 ·obtain⟨v,z⟩:=I.cell x c e
  obtain⟨o,ho,_⟩:=id z
  exact free c o (cellK x c e v z).2 ho (I.iJ x c e)
 ·obtain⟨e,n,ne,nf,d⟩:=I.pin p hp
  have nch:p.1∉ch:=fun z=>(hch p.1 z).2.2 p hp rfl
  have nst:p.1∉sT X.stack:=fun z=>by
   rcases aK.mp (I.stkSub _ z)with w | w
   ·exact ne w
   ·exact nf w
  exact⟨keep _ _ nch nst e,free _ _ nch e n,ne,nf,d⟩
end
def NA(X:Cx)(pn:List (Addr×Obj))(W:Addr->St->Hp->Prop)(e:Value)(s':ah):Prop:=
 ∃(a T C:Addr) (σ':St) (H':Hp) (pins':List (Addr×Obj)),e= .ref a/\Inv {X with pn:=pn} pins' σ' H' s'/\JX s'.heap a T (.ref C)/\H' a=none/\H' T=none/\X.s₀.heap.get? a=none/\X.s₀.heap.get? T=none/\(∀p∈pn,p.1≠a/\p.1≠T)/\W C σ' H'
def IB(X:Cx)(pn:List (Addr×Obj))(W:Addr->St->Hp->Prop):Cx:={X with pn:=pn,xe:=NA X pn W}
theorem Fb{X:Cx}{pins:List (Addr×Obj)}{σ:St}{H:Hp}{s:ah}{E:Value->ah->Prop}(I:Inv X pins σ H s):Inv {X with xe:=E} pins σ H s:=
 ⟨⟨I.ok.mod,I.ok.kind,I.ok.glob,I.ok.blt,I.ok.above,I.ok.inj,I.ok.has,I.ok.CD,I.ok.hd,I.ok.frames,I.ok.qM,I.ok.GN,I.ok.bs,I.ok.wX,I.ok.pZ,I.ok.rD,I.ok.ll,I.ok.zg⟩,I.os,I.bare,I.base,I.loc,I.cell,I.free,I.iJ,I.pin,I.dO,I.len⟩
theorem JN{X:Cx}{pins:List (Addr×Obj)}{σ:St}{H:Hp}{s:ah}{W:Addr->St->Hp->Prop}(I:Inv X pins σ H s):Inv (IB X (X.pn ++ pins) W) [] σ H s:=
 ⟨⟨I.ok.mod,I.ok.kind,I.ok.glob,I.ok.blt,I.ok.above,I.ok.inj,I.ok.has,I.ok.CD,I.ok.hd,I.ok.frames,I.ok.qM,I.ok.GN,I.ok.bs,I.ok.wX,I.ok.pZ,I.ok.rD,I.ok.ll,I.ok.zg⟩,I.os,I.bare,I.base,I.loc,I.cell,I.free,I.iJ,(fun p hp=>I.pin p (by
  have z:p∈(X.pn ++ pins) ++ []:=hp
  rwa [aZ]at z)),I.dO,I.len⟩
theorem JZ{X:Cx}{pins pins':List (Addr×Obj)}{σ:St}{H:Hp}{s:ah}(I:Inv {X with pn:=X.pn ++ pins} pins' σ H s):Inv X pins σ H s:=
 ⟨⟨I.ok.mod,I.ok.kind,I.ok.glob,I.ok.blt,I.ok.above,I.ok.inj,I.ok.has,I.ok.CD,I.ok.hd,I.ok.frames,I.ok.qM,I.ok.GN,I.ok.bs,I.ok.wX,I.ok.pZ,I.ok.rD,I.ok.ll,I.ok.zg⟩,I.os,I.bare,I.base,I.loc,I.cell,I.free,I.iJ,(fun p hp=>I.pin p (dg _ hp)),I.dO,I.len⟩
section
variable {X:Cx}{pn:List (Addr×Obj)}{W:Addr->St->Hp->Prop}
theorem KH(hex:X.ex= []){pins:List (Addr×Obj)}{σ:St}{H:Hp}{s:ah}{e:Value}{s':ah}(I:Inv (IB X pn W) pins σ H s)(h:gI X.prog X.w X.stack H s (fun v _ H'=> ∃C,v= .ref C/\W C σ H') e s'):(IB X pn W).xe e s':=by
 obtain⟨a,T,C,H',ee,os,bare,un,dO,na,nT,ha,hT,tr,C',eC,hW⟩:=h
 subst ee
 cases eC
 obtain⟨hh,g,d,tk,os'⟩:=s'
 obtain rfl:os'=s.os:=os
 have I1:Inv (IB X pn W) pins σ H' {s with heap:=hh,gens:=g,drawn:=d,toks:=tk}:=I.call (h':=hh) (g':=g) (d':=d) (t':=tk) (ch:= []) un dO bare (fun b z=>absurd z (by simp))
 have n0: ∀b,s.heap.get? b=none->X.s₀.heap.get? b=none:=fun b z=>by
  cases q:X.s₀.heap.get? b with
  | none=>rfl
  | some o=>
   obtain⟨o',z'⟩:=I.base.there b o q (by show b∉X.ex; rw [hex]; simp)
   rw [z]at z'; cases z'
 refine⟨a,T,C,σ,H',pins,rfl,Fb (E:=X.xe) I1,tr,ha,hT,n0 _ na,n0 _ nT,fun p hp=> ?_,hW⟩
 have q:=(I.pin p (dg _ hp)).1
 exact⟨(fun z=>by rw [z,na]at q; cases q),(fun z=>by rw [z,nT]at q; cases q)⟩
def Kl(X:Cx)(W:Addr->St->Hp->Prop)(ρ:eT)(e:Expr)(C:Addr):Prop:= ∀(M0:MP) (H0:Hp) (γ:List (D×V)) (α:Nat->Addr) (σ:St) (H:Hp) (Q:VK),Rep X.K M0 H0 γ α ρ σ H->(∀H',bJ H H'->W C σ H')->tE X e σ H Q
def lS(X:Cx)(W:Addr->St->Hp->Prop)(ρ:eT)(st:List Stmt)(C:Addr):Prop:= ∀(M0:MP) (H0:Hp) (γ:List (D×V)) (α:Nat->Addr) (σ:St) (H:Hp) (En:Ends),Rep X.K M0 H0 γ α ρ σ H->(∀H',bJ H H'->W C σ H')->nj X st En σ H
end
section
variable {X:Cx}{pn:List (Addr×Obj)}{W:Addr->St->Hp->Prop}{ρ:eT}{e c:Expr}{es:List Expr}{sts s1 s2:List Stmt}{C:Addr}{pos p pos':Pos}{k:Nat}{x y:Str}{ι:Type}{args:ι->List D}{pre:ι->Prop}{res:ι->Except Addr D}
theorem Kl.call{i:ι}(hex:X.ex= [])(F:lO X.prog X.w X.K X.mg X.base (gI X.prog X.w) k x args pre res)(hr:fq k X.A)(hg:Gl X x)(ha:aP (IB X pn W) ρ (e::es) (args i))(hp:pre i)(hres:res i= .error C)(hdb:(x==("__debug__":Str))=false:=by decide)
  (he:ar (e::es) X.env=(false,eval e X.env)::ar es X.env:=by rfl)(hpl:(dZ pos (ar es X.env)).any (·.1)=false:=by rfl):Kl (IB X pn W) W ρ (.Call (.Name x p) (e::es) [] pos) C:=fun M0 H0 γ α σ H Q R kE=>by
 obtain⟨f,fd,ps,F,hm,hk,hb⟩:=F.ex
 intro pins s I
 refine iT (lT I hg hm ?_ hdb)
 have run:=wu (X:=IB X pn W) (es:=e::es) pos pins s σ H (fun vs H1=>bJ H H1/\cA X.K (MM M0 ρ α) H1 (args i) vs) I (ha M0 H0 γ α σ H _ R fun vs H1 s1 d1=>⟨s1,d1⟩)
 refine ql (h₀:=X.base) I.ok.mod.vc hk (eN run fun us s1 ⟨vs,H1,I1,r,sm,d1⟩=>⟨I1.kIn, ?_⟩) he hpl
 have hsp:lQ X.K args pre res vs H1 Q (fun v _ H'=> ∃C,v= .ref C/\W C σ H'):=⟨i,MM M0 ρ α,iH R sm,d1,hp,(fun d' e=>by rw [hres]at e; cases e),(fun C' e a H2 s2=>by rw [hres]at e; cases e; exact⟨C,rfl,kE H2 (sm.trans s2)⟩)⟩
 have hl:us.length=ps.length:=by rw [<-r.length]; exact F.len _ _ _ _ hsp
 have hbt:=hb s1 us I1.kIn (by rw [aZ]; exact hl)
 rw [aZ]at hbt
 refine wL (ja (F.run X.A X.stack s1 H1 ⟨us, []⟩ us vs Q _ hr I1.env0 hbt r hsp) fun r s' hq=> ?_)
 cases r with
 | error e=>exact KH hex I1 hq
 | ok fl=>
  cases fl with
  | ret u=>exact I1.after hq
  | next=>exact cE hq
  | brk=>exact cE hq
  | cont=>exact cE hq
theorem lS.expr(h:Kl X W ρ e C)(hs:cQ e none pos.line X.env=pure false:=by rfl):lS X W ρ (.Expr e pos::sts) C:=fun M0 H0 γ α σ H En R kE=>(dq sN fK).to ((nB g7 hs).to (h M0 H0 γ α σ H _ R kE))
theorem lS.ite{t:Bool}(h:cG X ρ c t)(h1:t=true->lS X W ρ s1 C)(h2:t=false->lS X W ρ s2 C):lS X W ρ (.If c s1 s2 pos::sts) C:=fun M0 H0 γ α σ H En R kE=>
 (dq sN fK).to ((xN CB fK fK).to (h M0 H0 γ α σ H _ R fun H1 s=>by
  cases e:t with
  | true=>exact sS (h1 e M0 H0 γ α σ H1 _ (R.next s) fun H' s'=>kE H' (s.trans s'))
  | false=>exact qE (h2 e M0 H0 γ α σ H1 _ (R.next s) fun H' s'=>kE H' (s.trans s'))))
theorem lS.skip(h:cG X ρ c false)(k:lS X W ρ sts C):lS X W ρ (.If c s1 [] pos::sts) C:=fun M0 H0 γ α σ H En R kE=>
 (dq sN fK).to (r_ h R fun H' s=>k M0 H0 γ α σ H' En (R.next s) fun H2 s2=>kE H2 (s.trans s2))
end
end Z
namespace Z
open PySem PySem.Spec PyProof.Rows
structure mM(C D0:Addr)(h:Heap):Prop where
 lo: ∃nm q N bs bm hdct sn sub ab col dd k0 k1 k2 k3 k5 newId,h.get? C=some (Cu nm q C N bs bm hdct sn sub ab col dd k0 k1 k2 k3 k5 newId)/\(ak C::bm).contains (.ref D0)=true
 up: ∃nm q N bs bm hdct sn sub ab col dd k0 k1 k2 k3 k5 newId,h.get? D0=some (Cu nm q D0 N bs bm hdct sn sub ab col dd k0 k1 k2 k3 k5 newId)/\(ak D0::bm).contains (.type "BaseException")=true
theorem mM.keeps{C D0:Addr}{h h':Heap}(x:mM C D0 h)(k: ∀b o,h.get? b=some o->h'.get? b=some o):mM C D0 h':=by
 obtain⟨⟨nm,q,N,bs,bm,hdct,sn,sub,ab,col,dd,k0,k1,k2,k3,k5,newId,e1,e2⟩,⟨nm',q',N',bs',bm',hdct',sn',sub',ab',col',dd',k0',k1',k2',k3',k5',newId',e3,e4⟩⟩:=x
 exact⟨⟨nm,q,N,bs,bm,hdct,sn,sub,ab,col,dd,k0,k1,k2,k3,k5,newId,k _ _ e1,e2⟩,⟨nm',q',N',bs',bm',hdct',sn',sub',ab',col',dd',k0',k1',k2',k3',k5',newId',k _ _ e3,e4⟩⟩
theorem xu{M:Model}{A:bh}{E:Value->ah->Prop}{s:ah}{e C D0:Addr}{oe:Obj}{Q:Bool->ah->Prop}(x:mM C D0 s.heap)(he:s.heap.get? e=some oe)(hcls:oe.cls= .ref C)(hq:Q true s):wpAny M A (excMatches (.ref e) (.ref D0)) Q E s:=by
 obtain⟨⟨nm,q,N,bs,bm,hdct,sn,sub,ab,col,dd,k0,k1,k2,k3,k5,newId,hC,hcC⟩,⟨nm',q',N',bs',bm',hdct',sn',sub',ab',col',dd',k0',k1',k2',k3',k5',newId',hD,hcB⟩⟩:=x
 obtain⟨h,g,d,t,os⟩:=s
 have f:=tc_notTuple
 unfold excMatches
 repeat (first | (with_reducible refine lM he ?_; rw [hcls]) | with_reducible refine lM hD ?_ | (with_reducible refine wpAny_isSubtype_exc hD ?_; rw [hcB]) | (with_reducible refine wpAny_isSubtype_exc hC ?_; rw [hcC]) | wp_step)
 exact hq
end Z
namespace Z
open PySem PySem.Spec PyProof.Rows L2
abbrev sX(X:Cx)(a:Addr):Cx:={X with A:=X.A.mark (some (.ref a)),calm:=false,xe:=fun _ _=>False}
theorem ID{X:Cx}{pins:List (Addr×Obj)}{σ:St}{H:Hp}{s:ah}{a:Addr}(I:Inv X pins σ H s):Inv (sX X a) pins σ H s:=
 ⟨⟨I.ok.mod,I.ok.kind,I.ok.glob,I.ok.blt,I.ok.above,I.ok.inj,I.ok.has,I.ok.CD,fun h=>absurd h aA,I.ok.frames,I.ok.qM,I.ok.GN,I.ok.bs,I.ok.wX,I.ok.pZ,I.ok.rD,I.ok.ll,I.ok.zg⟩,I.os,I.bare,I.base,I.loc,I.cell,I.free,I.iJ,I.pin,I.dO,I.len⟩
theorem zk{X:Cx}{pins:List (Addr×Obj)}{σ:St}{H:Hp}{s:ah}{a:Addr}(ok:X.Ok)(I:Inv (sX X a) pins σ H s):Inv X pins σ H s:=
 ⟨ok,I.os,I.bare,I.base,I.loc,I.cell,I.free,I.iJ,I.pin,I.dO,I.len⟩
theorem J0{X:Cx}{pins:List (Addr×Obj)}{σ σ':St}{H:Hp}{s:ah}{h':Heap}{m':Str->Option Value}{tk:Nat}(I:Inv X pins σ H s)(hn:h'.Ns X.env.locals m')(sb:bH X.env.locals s.heap h')(hlen:σ'.length=X.N.length)
  (hl: ∀(i:Nat) (x:Str) (v:V),X.N[i]? =some x->σ'[i]? =some (some v)->yy X.env.scope x-> ∃u,RelV v u/\Look X.env h' m' x u):Inv X pins σ' H {s with heap:=h',toks:=tk}:=by
 have nL: ∀b o,X.s₀.heap.get? b=some o->b≠X.env.locals:=fun b o e=>aE (aX (au e) I.ok.above)
 refine⟨I.ok,I.os,I.bare,⟨fun b o e n hb hx=> ?_,fun b o e n hb hx=> ?_,I.base.free,fun b o e hx=> ?_,I.base.sQ,I.base.qD,I.base.rE⟩,⟨m',hn,hl⟩,fun y c e=> ?_,I.free,I.iJ,fun p hp=> ?_,fun b u q=> ?_,hlen⟩
 ·exact(sb.2 b (nL b o e)).trans (I.base.keep b o e n hb hx)
 ·obtain⟨sl,e1⟩:=I.base.slot b o e n hb hx
  exact⟨sl,(sb.2 b (nL b o e)).trans e1⟩
 ·obtain⟨o',e1⟩:=I.base.there b o e hx
  exact⟨o',(sb.2 b (nL b o e)).trans e1⟩
 ·obtain⟨v,o,e1,e2⟩:=I.cell y c e
  exact⟨v,o,(sb.2 c (I.cne y c e)).trans e1,e2⟩
 ·obtain⟨e,n,ne,nf,d⟩:=I.pin p hp
  exact⟨(sb.2 _ ne).trans e,n,ne,nf,d⟩
 ·have nl: ∀c v,H c=some v->c≠X.env.locals:=fun c v z w=>by rw [w,I.free]at z; cases z
  refine(I.dO b u q).stay (fun c v hc z=>(sb.2 c ?_).trans z) (fun _ z=>z) fun _ _ z=>z
  rcases hc with w | w
  ·rw [w]; exact nl b u q
  ·exact nl c _ w
section
variable {X:Cx}{ρ:eT}{M0:MP}{H0:Hp}{P:pM}{body suite:List Stmt}{b0:Stmt}{cx n:Str}{np hpos pos:Pos}{j:Nat}{C D0:Addr}
theorem W1.tryRaise(hst:X.stack=X.env::X.outer)(hex:X.ex= [])(hfr:X.env.frame=some X.env.locals)(hN:X.N.Nodup)(hj:X.N[j]? =some n)(hn:X.env.scope.names.lookup n=some .local)(hlt:j < ρ.length)(hg:Gl X cx)(hm:X.mg cx=some (.ref D0))(hb:mM C D0 X.base)
  (rb: ∀pn W,lS (IB X pn W) W ρ body C)(su: ∀a,WS (sX X a) M0 H0 (b0::suite) (ρ.set j (.im (.exc C))) {N:=fun ρ'=>P.N (ρ'.set j .un),R:=fun _=>False})(hdb:(cx==("__debug__":Str))=false:=by decide):
  W1 X M0 H0 (.Try body [.ExceptHandler (some (.Name cx np)) (some n) (b0::suite) hpos] [] [] pos) ρ P:=fun γ α σ H R pins s I=>by
 have run:=rb (X.pn ++ pins) (fun C' σ' H'=>C'=C/\Rep X.K M0 H0 γ α ρ σ' H') M0 H0 γ α σ H {nx:=fun _ _=>False,rt:=fun _ _=>False,bk:=fun _ _=>False,ct:=fun _ _=>False} R (fun H' sm=>⟨rfl,R.next sm⟩) [] s (JN I)
 refine wpAny_Try_except (bN run (fun f s1 q=> ?_) fun e s1 z=> ?_)
 ·cases f with
  | next=>obtain⟨_,_,_,q⟩:=q; exact q.elim
  | ret u=>obtain⟨_,_,_,_,_,q⟩:=q; exact q.elim
  | brk=>obtain⟨_,_,_,q⟩:=q; exact q.elim
  | cont=>obtain⟨_,_,_,q⟩:=q; exact q.elim
 obtain⟨a,T,C',σ',H',pins',ee,I1,tr,ha,hT,na,nT,hpn,eC,R1⟩:=z
 subst ee eC
 have I2:Inv X pins σ' H' s1:=JZ I1
 have frq:GP (X.env::X.outer)=sT X.stack:=by rw [hst]; rfl
 refine Bc (base:=X.base) (by rw [<-hst]; exact I2.ok.frames) (by rw [<-hst]; exact I2.stack) hfr tr fun h2 T' x=> ?_
 obtain⟨ne1,⟨oe1,vs1,he1,hc1,hd1,_⟩,oT1,ts1,hT1,hdT1,_⟩:=id tr
 obtain⟨ne2,⟨oe2,vs2,he2,hc2,hd2,_⟩,oT2,ts2,hT2,hdT2,_⟩:=id x.tr
 have okH: ∀c v,H' c=some v->c∉ [a,T]/\c∉sT X.stack:=fun c v z=>by
  refine⟨fun m=> ?_,fun m=> ?_⟩
  ·have:c=a\/c=T:=by simpa using m
   rcases this with rfl | rfl
   ·rw [ha]at z; cases z
   ·rw [hT]at z; cases z
  ·rw [I2.stkFree c m]at z; cases z
 have k2:n_ X.prog X.w H' h2:=fun b u q=>by
  refine(I2.dO b u q).stay (fun c v hc z=> ?_) (fun _ z=>z) fun _ _ z=>z
  have:=hc.elim (fun w=>by rw [w]; exact okH b u q) fun w=>okH c _ w
  exact x.keep c v this.1 (by rw [frq]; exact this.2) z
 have I3:Inv X pins σ' H' {s1 with heap:=h2}:=by
  refine yF (g':=s1.gens) (d':=s1.drawn) (t':=s1.toks) (ch:= [a,T]) I2 (fun b hb'=> ?_) (fun b o n1 n2 q=>x.keep b o n1 (by rw [frq]; exact n2) q) (fun b o m q=>x.slot b o (by rw [frq]; exact m) q) (bJ.refl _) (fun _ _ _ _ z=>z) k2 I2.bare
  have:b=a\/b=T:=by simpa using hb'
  rcases this with rfl | rfl
  ·exact⟨na,(fun o q=>by rw [he1]at q; cases q; exact⟨_,hd1⟩),fun p hp=>(hpn p hp).1⟩
  ·exact⟨nT,(fun o q=>by rw [hT1]at q; cases q; exact⟨_,hdT1⟩),fun p hp=>(hpn p hp).2⟩
 refine wpAny_handleBy_cons (codeAny_handlers_test (lT (X:=sX X a) (ID I3) hg hm ?_ hdb)) (by intro q; cases q)
 refine xu (s:={s1 with heap:=h2}) (hb.keeps I3.bk) he2 hc2 ?_
 refine codeAny_handlers_suite_as (flight_again (s:={s1 with heap:=h2}) x.tr fun h4 tr4 k4=> ?_)
 obtain⟨_,⟨oe4,vs4,he4,hc4,hd4,_,hdn4⟩,_⟩:=id tr4
 have hT':H' T'=none:=I2.dO.fresh x.new
 have I5:Inv X pins σ' (upd H' a (Df a C')) {s1 with heap:=h4}:=by
  refine yF (s:={s1 with heap:=h2}) (g':=s1.gens) (d':=s1.drawn) (t':=s1.toks) (ch:= [a,T']) I3 (fun b hb'=> ?_) (fun b o n1 n2 q=>(k4 b fun z=>n1 (by simp [z])).trans q) (fun b o m q=>⟨o.slots,(k4 b fun z=> ?_).trans q⟩) (bt ha) (fun b o n1 q z=>by rw [ck fun w=>n1 (by simp [w])]; exact z) (fun b u q=> ?_) I2.bare
  ·have:b=a\/b=T':=by simpa using hb'
   rcases this with rfl | rfl
   ·exact⟨na,(fun o q=>by rw [show Heap.get? h2 b=some oe2 from he2]at q; cases q; exact⟨_,hd2⟩),fun p hp=>(hpn p hp).1⟩
   ·refine⟨oW (bu I2.sz x.new),(fun o q=>by rw [show Heap.get? h2 b=some oT2 from hT2]at q; cases q; exact⟨_,hdT2⟩),fun p hp z=> ?_⟩
    have:=au (I2.pin p hp).1
    rw [z]at this
    exact absurd (aX this x.new) (dS _)
  ·obtain⟨_,o',ho',nf⟩:=I3.stack.mem m
   rw [z,show Heap.get? h2 T'=some oT2 from hT2]at ho'
   cases ho'
   exact nf _ hdT2
  ·by_cases hba:b=a
   ·subst hba
    rw [bC]at q
    cases q
    exact⟨⟨oe4,he4,hc4,hdn4,vs4,hd4⟩,⟨oe4,he4⟩,fun h1 h2 ⟨o,e,c⟩ kk=>⟨o,kk o e,c⟩⟩
   ·rw [ck hba]at q
    refine(I3.dO b u q).stay (fun c v hc z=>(k4 c fun w=> ?_).trans z) (fun c z=>bt ha c _ z) fun c _ z=>bt ha c _ z
    rcases hc with w' | w'
    ·rw [w']at w
     rw [w,hT']at q; cases q
    ·rw [w,hT']at w'; cases w'
 refine qh (v:= .ref a) I5 hN hj (.inl hn) rfl (fun s6 I6 _=> ?_) (.inr hn)
 have R5:Rep X.K M0 H0 γ α (ρ.set j (.im (.exc C'))) (σ'.set j (some (.ref a))) (upd H' a (Df a C')):=(R1.next (bt ha)).set_im hlt ⟨a,rfl,bC⟩
 refine bN (su a γ α _ _ R5 pins s6 (ID I6)) (fun f s7 q=> ?_) fun _ _ z=>z.elim
 cases f with
 | ret u=>obtain⟨_,_,_,_,_,_,q,_⟩:=q; exact q.elim
 | brk=>obtain⟨_,_,_,_,_,_,q⟩:=q; exact q.elim
 | cont=>obtain⟨_,_,_,_,_,_,q⟩:=q; exact q.elim
 | next=>
  obtain⟨σ7,H7,I7',α7,ρ7,R7,pN⟩:=q
  have I7:Inv X pins σ7 H7 s7:=zk I2.ok I7'
  obtain⟨m,hn7,hl7⟩:=id I7.loc
  refine wpAny_nameGoes_keeps (show X.env.kindOf n=some .local from hn) hn7 (by rw [I7.ok.kind]; rfl) fun h8 v hn8 sb=> ?_
  refine⟨σ7.set j none,H7,J0 I7 hn8 sb (by rw [bA]; exact I7.len) (fun i y w e1 e2 e3=> ?_),α7,ρ7.set j .un,R7.forget,pN⟩
  rcases get_set e2 with⟨_,z⟩ | ⟨ni,z⟩
  ·cases z
  ·obtain⟨u,r,l⟩:=hl7 i y w e1 z e3
   refine⟨u,r, ?_⟩
   rcases l with⟨k,l⟩ | ⟨k,c,e,l⟩
   ·have ny:y≠n:=fun w=>ni (sZ hN e1 (w▸hj))
    exact .inl ⟨k,by simp [ny,l]⟩
   ·obtain⟨o,ho,hd⟩:=l
    exact .inr ⟨k,c,e,o,(sb.2 c (I7.cne y c e)).trans ho,hd⟩
end
end Z
namespace Z
open PySem PySem.Spec PySem.W PyProof.Rows
section
variable {prog:aq}{w:World}{A:bh}{E:Value->ah->Prop}{h:Heap}{g:Array wJ}{d:Drawn}{t:Nat}{os:OsState}{a C:Addr}{o:Obj}{K:Frag}
theorem yn{tk:Tok}{Q:ub->ah->Prop}(X:K.In h)(hx:h.get? a=some o)(hc:o.cls= .ref C)(hcl:findIn K (.ref C) "__class__"=some (some (.builtin "object.__class__")))(hm:mroIn K C (.type "object")=some true)(I:InstAt h a o C none)(hq:Q (.done (.ret (.ref C))) ⟨h,g,d,t,os⟩):
  wpAny (model prog w) A (c6.«object.__getattribute__» ⟨[.ref a, .str "__class__" tk], []⟩) Q E ⟨h,g,d,t,os⟩:=by
 have f6:=F.slot_gs_get.lookup
 have f7:=F.slot_gs_set.lookup
 have f5:typeOf (.builtin "object.__class__")=pure (.type "getset_descriptor"):=by show builtinType _=_; rw [builtinType_eq_fast]; kernel_rfl
 have hT5:(⟨h,g,d,t,os⟩:ah).TypeIs (.builtin "object.__class__") "getset_descriptor":=f5
 have L1:=looks_findIn (M:=model prog w) X hcl
 repeat (any_goals (first | assumption | (with_reducible refine lM hx ?_; rw [hc]) | (with_reducible refine L1.at ?_) | wp_step))
 refine class_get (s:=⟨h,g,d,t,os⟩) X I hm ?_
 exact af hq
structure xf(K:Frag)(C:Addr):Prop where
 cl:findIn K (.ref C) "__class__"=some (some (.builtin "object.__class__"))
 ga:findIn K (.ref C) "__getattribute__"=some (some (.builtin "BaseException.__getattribute__"))
 gt:findIn K (.ref C) "__getattr__"=some none
 ob:mroIn K C (.type "object")=some true
 be:subIn K (.ref C) (.type "BaseException")=some true
theorem x_{M:Model}{nameV:Value}{Q:Unit->ah->Prop}(T:xf K C)(X:K.In h)(hx:h.get? a=some o)(hc:o.cls= .ref C)(hq:Q () ⟨h,g,d,t,os⟩):wpAny M A (Ie "BaseException.__getattribute__" ⟨[.ref a,nameV], []⟩) Q E ⟨h,g,d,t,os⟩:=by
 have hk:builtinKind "BaseException.__getattribute__"=some .slot:=by decide +kernel
 have hsplit:splitId "BaseException.__getattribute__"=some ("BaseException","__getattribute__"):=by decide +kernel
 have ha:=F.args_bexc_ga (.ref a) nameV
 have L2:=looks_subIn (M:=M) X T.be
 simp only [Ie,hk,hsplit]
 refine aa ?_
 unfold isInstance
 repeat (first | (with_reducible refine lM hx ?_; rw [hc]) | (with_reducible refine L2.at ?_) | wp_step)
 exact hq
theorem Dq{tk:Tok}{fill expr:Bool}{Q:Value->ah->Prop}(T:xf K C)(X:K.In h)(hx:h.get? a=some o)(hc:o.cls= .ref C)(I:InstAt h a o C none)(hq:Q (.ref C) ⟨h,g,d,t,os⟩):
  wpAny (model prog w) A (getAttrBy (.ref a) (.str "__class__" tk) fill expr) Q E ⟨h,g,d,t,os⟩:=by
 have FB:=F.excAttr_ValueError
 have f3:=FB.ga.bind (.ref a)
 have hx0:(expr&&onTheHeap (mh "BaseException.__getattribute__"))=false:=by cases expr <;> rfl
 have hx2:(mh "BaseException.__getattribute__"==mh "object.__getattribute__")=false:=by decide +kernel
 have hx1:(onTheHeap (ak C)&&mh "BaseException.__getattribute__"==mh "object.__getattribute__")=false:=by rw [hx2]; rfl
 have L1:=looks_findIn (M:=model prog w) X T.ga
 have L2:=looks_findIn (M:=model prog w) X T.gt
 repeat (any_goals (first | assumption | (with_reducible refine lM hx ?_; rw [hc]) | (with_reducible refine L1.at ?_) | (with_reducible refine L2.at ?_) | wp_step))
 refine codeAny_call_builtin FB.ga.plain F.entry_bexc_ga (x_ T X hx hc (yn X hx hc T.cl T.ob I ?_))
 repeat (any_goals (first | assumption | wp_step))
theorem zy{Q:Option Value->ah->Prop}{s:ah}(T:xf K C)(X:K.In s.heap)(I:InstAt s.heap a o C none)(hq:Q (some (.ref C)) {s with toks:=s.toks+1}):wpAny (model prog w) A (getAttr? (.ref a) "__class__") Q E s:=by
 obtain⟨h,g,d,t,os⟩:=s
 have hx:=I.at_
 have hc:=I.cls
 unfold getAttr?
 repeat (any_goals (first | assumption | with_reducible apply Dq T X hx hc I | wp_step))
end
section
variable {K:Frag}{a C:Addr}
def ExcAt(a C:Addr)(h:Heap):Prop:= ∃o,h.get? a=some o/\o.cls= .ref C/\o.dict=none/\ ∃vs,o.data= .fields vs
theorem ExcAt.inst{h:Heap}(x:ExcAt a C h): ∃o,InstAt h a o C none:=by
 obtain⟨o,e,c,d,vs,f⟩:=x
 refine⟨o,e,c, ?_, ?_⟩
 ·obtain⟨oc,od,dt,sl⟩:=o
  cases (show dt=_ from f)
  rfl
 ·rw [d]
  trivial
theorem E7(T:xf K C)(hcl:(clsIn K C).isSome=true):KitX K (.ref a) (.ref C) (ExcAt a C) where
 ty:=fun _ _ _ x=>let⟨o,I⟩:=x.inst; I.type
 it:=fun _ _ X _=>by
  obtain⟨cdD,hcD⟩:=yJ.mp hcl
  unfold clsIn at hcD
  split at hcD
  ·rename_i c' d' cd' sl' ho
   intro A' Q' E' s' k q
   unfold isType loadHead
   exact aa (wpAny_loadPart (k _ _ (X _ _ ho)) (af q))
  ·cases hcD
 ne:=fun h tp dd its n sl X htp=>by
  obtain⟨cdD,hcD⟩:=yJ.mp hcl
  refine Bool.eq_false_iff.mpr fun q=> ?_
  have e:C=tp:=Value.ref.inj (beq_iff_eq.mp q)
  subst e
  unfold clsIn at hcD
  split at hcD
  ·rename_i c' d' cd' sl' ho
   have z:=(X _ _ ho).symm.trans htp
   cases z
  ·cases hcD
 ca:=fun X x k=>let⟨o,I⟩:=x.inst; zy T X I k
end
end Z
namespace Z
open PySem PySem.Spec PyProof.Rows L2
structure Hz(K:Frag)(C:Addr):Prop where
 t:xf K C
 c:(pV K C).isSome=true
section
variable {X:Cx}{ρ:eT}{e:Expr}{C:Addr}{p p2 pos:Pos}{x:Str}{b:Bool}
theorem uT:gK X (.builtin "isinstance") (fun xs H Q=> ∃(a C:Addr) (v:V) (c:Value) (b:Bool),xs= [.ref a,v]/\RelV v c/\(∀u,RelV v u->u=c)/\H a=some (Df a C)/\Hz X.K C/\aQ X.K (.ref C) c=some b/\Q (.bl b) H):=by
 intro pins s σ H xs us Q I r ⟨a,C,v,c,b,e,rc,ru,ha,T,hk,q⟩
 subst e
 obtain⟨u,c',rfl,r1,r2⟩:=vals2 r
 cases (show u=ak a from r1)
 cases ru c' r2
 obtain⟨⟨o,e1,e2,e3,vs,e4⟩,_⟩:=(show fC X.prog X.w H s.heap a (Df a C)from I.dO a _ ha)
 exact iC (E7 T.t T.c) I.kIn ⟨o,e1,e2,e3,vs,e4⟩ hk (fun z=>nomatch z) fun tk=>⟨.bl b,H,I.tok tk,rfl,q⟩
theorem av.isiE{C':Addr}(hg:Gl X "isinstance")(hm:X.mg "isinstance"=none)(hgC:Gl X x)(hmC:X.mg x=some (.ref C'))(h:av X ρ e (.exc C))(T:Hz X.K C)(hk:aQ X.K (.ref C) (.ref C')=some b)
  (he:ar [e, .Name x p2] X.env=(false,eval e X.env)::ar [.Name x p2] X.env:=by rfl)(he2:ar [.Name x p2] X.env= [(false,eval (.Name x p2) X.env)]:=by rfl)(hpl:(dZ pos (ar [.Name x p2] X.env)).any (·.1)=false:=by rfl)
  (hd:(x==("__debug__":Str))=false:=by decide):av X ρ (.Call (.Name "isinstance" p) [e, .Name x p2] [] pos) (.bl b):=fun M0 H0 γ α σ H Q R k=>
 (gZ uT hg hm uD (dG g7 (dG (A3 (v:= .ref C') hgC hmC rfl hd) gG he2) he) (by decide) (by decide) he hpl).to (h M0 H0 γ α σ H _ R fun v H1 s1 d1=>by
  obtain⟨a,rfl,ha⟩:=d1
  exact⟨a,C, .ref C', .ref C',b,rfl,rfl,fun _ z=>z,ha,T,hk,k _ H1 s1 rfl⟩)
theorem av.isiET{n:String}(hg:Gl X "isinstance")(hm:X.mg "isinstance"=none)(hgC:Gl X x)(hmC:X.mg x=none)(hv:cZ x=some (.type n))(h:av X ρ e (.exc C))(T:Hz X.K C)(hk:aQ X.K (.ref C) (.type n)=some b)
  (he:ar [e, .Name x p2] X.env=(false,eval e X.env)::ar [.Name x p2] X.env:=by rfl)(he2:ar [.Name x p2] X.env= [(false,eval (.Name x p2) X.env)]:=by rfl)(hpl:(dZ pos (ar [.Name x p2] X.env)).any (·.1)=false:=by rfl)
  (hn:x≠"__name__":=by decide)(hd:(x==("__debug__":Str))=false:=by decide):av X ρ (.Call (.Name "isinstance" p) [e, .Name x p2] [] pos) (.bl b):=fun M0 H0 γ α σ H Q R k=>
 (gZ uT hg hm uD (dG g7 (dG (rh (v:= .ty n) hgC hmC hv rfl hn hd) gG he2) he) (by decide) (by decide) he hpl).to (h M0 H0 γ α σ H _ R fun v H1 s1 d1=>by
  obtain⟨a,rfl,ha⟩:=d1
  exact⟨a,C, .ty n, .type n,b,rfl,rfl,fun _ z=>z,ha,T,hk,k _ H1 s1 rfl⟩)
end
def D.bare:Nat->D->Prop
 | _, .non=>True
 | _, .bl _=>True
 | _, .int _=>True
 | _, .str _=>True
 | n+1, .tup ds=> ∀d∈ds,D.bare n d
 | n+1, .ins _ _ ds=> ∀d∈ds,D.bare n d
 | _,_=>False
theorem cA.map1{K:Frag}{M M':MP}{H H':Hp}: ∀{ds:List D} {xs:List V},(∀d∈ds, ∀v,Dn K M H d v->Dn K M' H' d v)->cA K M H ds xs->cA K M' H' ds xs
 | [],_,_,h=>h
 | d::ds,_,k,⟨v,t,e,h1,h2⟩=>⟨v,t,e,k d (.head _) v h1,cA.map1 (fun x hx=>k x (.tail _ hx)) h2⟩
theorem Dn.bare{K:Frag}{M M':MP}{H:Hp}: ∀(n:Nat) {d:D} {v:V},D.bare n d->Dn K M H d v->Dn K M' H d v:=by
 intro n
 induction n with
 | zero=>intro d v hf h; cases d <;> first | exact h | exact hf.elim
 | succ n ih=>
  intro d v hf h
  cases d with
  | tup ds=>
   obtain⟨a,xs,e,s,r⟩:=h
   exact⟨a,xs,e,s,cA.map1 (fun d hd v=>ih (hf d hd)) r⟩
  | ins C ns ds=>
   obtain⟨a,dx,fs,e,s,hn,r⟩:=h
   exact⟨a,dx,fs,e,s,hn,cA.map1 (fun d hd v=>ih (hf d hd)) r⟩
  | non=>exact h
  | bl _=>exact h
  | int _=>exact h
  | str _=>exact h
  | _=>exact hf.elim
theorem Fc(σ:St)(i:Nat):σ.set i (σ[i]?).join=σ:=by
 apply fy
 intro j
 rw [fx]
 split
 ·rename_i e
  subst e
  split
  ·rename_i h
   rw [ai h]
   rfl
  ·rename_i h
   rw [bq (tY h)]
 ·rfl
section
variable {K:Frag}{M:MP}{H:Hp}{a b:Addr}{o:Obj}{xs ys:List V}
theorem Eh(ha:H a=some (.frz o (.lst xs)))(h:Rd H b (.lst ys)):Rd (upd H a (.lst xs)) b (.lst ys):=by
 by_cases hb:b=a
 ·subst hb
  rcases h with h | ⟨o',h⟩
  ·rw [ha]at h; cases h
  ·rw [ha]at h; cases h; exact .inl bC
 ·rcases h with h | ⟨o',h⟩
  ·exact .inl (by rw [ck hb]; exact h)
  ·exact .inr ⟨o',by rw [ck hb]; exact h⟩
theorem Ex(ha:H a=some (.frz o (.lst xs)))(h:jR K H b ys):jR K (upd H a (.lst xs)) b ys:=by
 rcases h with(h | ⟨o',h⟩) | h
 ·exact .inl (.inl (by rw [ck fun z=>by rw [z,ha]at h; cases h]; exact h))
 ·exact .inl (.inr ⟨o',by rw [ck fun z=>by rw [z,ha]at h; cases h]; exact h⟩)
 ·exact .inr h
theorem EF(ha:H a=some (.frz o (.lst xs)))(h:F_ K M H b ys):F_ K M (upd H a (.lst xs)) b ys:=by
 rcases h with⟨h,m⟩ | h
 ·exact .inl ⟨Eh ha h,m⟩
 ·exact .inr h
mutual
theorem Dn.thaw(ha:H a=some (.frz o (.lst xs))): ∀{d:D} {v:V},Dn K M H d v->Dn K M (upd H a (.lst xs)) d v
 | .non,_,x=>x
 | .bl _,_,x=>x
 | .int _,_,x=>x
 | .str _,_,x=>x
 | .tup ds,_,⟨b,ys,e,s,r⟩=>⟨b,ys,e,Ex ha s,cA.thaw ha r⟩
 | .lst ds,_,⟨b,ys,e,s,r⟩=>⟨b,ys,e,EF ha s,cA.thaw ha r⟩
 | .ins _ _ ds,_,⟨b,dx,fs,e,s,n,r⟩=>⟨b,dx,fs,e,by rw [ck fun z=>by rw [z,ha]at s; cases s]; exact s,n,cA.thaw ha r⟩
 | .exc C,_,⟨b,e,s⟩=>⟨b,e,by rw [ck fun z=>by rw [z,ha]at s; cases s]; exact s⟩
 | .dct _ _,_,⟨b,bs,e,s,l1,l2,r⟩=>⟨b,bs,e,by rw [ck fun z=>by rw [z,ha]at s; cases s]; exact s,l1,l2,cA.thaw ha r⟩
theorem cA.thaw(ha:H a=some (.frz o (.lst xs))): ∀{ds:List D} {vs:List V},cA K M H ds vs->cA K M (upd H a (.lst xs)) ds vs
 | [],_,x=>x
 | _::_,_,⟨v,r,e,p,q⟩=>⟨v,r,e,Dn.thaw ha p,cA.thaw ha q⟩
end
end
section
variable {K:Frag}{h:Heap}{mg:Str->Option Value}{x:Str}{C D0:Addr}{tl:List Value}{nid:String}
theorem AK(ok:eQ K C tl nid=true): ∃nm q N bs bm hdct sn sub ab col dd k0 k1 k2 k3 k5,K.lookup C=some (Cu nm q C N bs bm hdct sn sub ab col dd k0 k1 k2 k3 k5 nid)/\PySem.W.tailIn K tl bm=true/\PySem.W.nsOkIn K N=true/\cR K N "__init__"=some none:=by
 unfold eQ at ok
 split at ok
 case h_2=>cases ok
 rename_i dct cdat slots look
 split at ok
 case h_2=>cases ok
 rename_i C2 above s0 s1 s2 s3 bid s5 em es
 simp only [gN,bx,beq_iff_eq]at ok
 obtain⟨⟨⟨⟨⟨w1,w2⟩,w3⟩,w4⟩,w5⟩,w6⟩:=ok
 subst w1 w2
 obtain⟨v1,v2,v3,v4,v5,v6,v7,v8,v9,v10,v11⟩:=cdat
 dsimp only at em w3 w5 w6
 subst em w3
 obtain⟨sl⟩:=slots
 have es':sl= [s0,s1,s2,s3,some (.builtin bid),s5]:=es
 subst es'
 exact⟨v1,v5,v4,v2,above,v6,v7,v8,v9,v10,dct,s0,s1,s2,s3,s5,look,w4,w5,w6⟩
theorem Bd(vc:K.In h)(hmg:mg x=some (.ref C))(ok:eQ K C tl nid=true):OwnCls x C tl nid mg h:=by
 obtain⟨nm,q,N,bs,bm,hdct,sn,sub,ab,col,dd,k0,k1,k2,k3,k5,look,w4,w5,w6⟩:=AK ok
 exact⟨hmg,bm,N,nm,q,bs,hdct,sn,sub,ab,col,dd,k0,k1,k2,k3,k5,_,vc _ _ look, .of_isNs (PySem.W.isNs_of_in vc w5),PySem.W.nsMap_none_of_in vc w5 w6,PySem.W.tail_of_in vc w4⟩
theorem vE(vc:K.In h)(hmg:mg x=some (.ref C))(ok:eQ K C zb "ValueError.__new__"=true):ym x C mg h:=
 ⟨_,_,_,_,Bd vc hmg ok,wW,by decide +kernel⟩
theorem vd{v:Value}(vc:K.In h)(ok:eQ K C tl nid=true)(hm:dU K C v=some true):
  ∃nm q N bs bm hdct sn sub ab col dd k0 k1 k2 k3 k5 newId,h.get? C=some (Cu nm q C N bs bm hdct sn sub ab col dd k0 k1 k2 k3 k5 newId)/\(ak C::bm).contains v=true:=by
 obtain⟨nm,q,N,bs,bm,hdct,sn,sub,ab,col,dd,k0,k1,k2,k3,k5,look,w4,w5,w6⟩:=AK ok
 refine⟨nm,q,N,bs,bm,hdct,sn,sub,ab,col,dd,k0,k1,k2,k3,k5,nid,vc _ _ look, ?_⟩
 unfold dU pV at hm
 rw [look]at hm
 have hm':some ((ak C::bm).contains v)=some true:=hm
 exact aC hm'
theorem rY{tl':List Value}{nid':String}(vc:K.In h)(o1:eQ K C tl nid=true)(o2:eQ K D0 tl' nid'=true)(m1:dU K C (.ref D0)=some true)(m2:dU K D0 (.type "BaseException")=some true):mM C D0 h:=⟨vd vc o1 m1,vd vc o2 m2⟩
end
theorem CQ{l:IM}{q:aq}{loose:List Str}{XP:(Str->Option Value)->Heap->Prop}{YP:World->Heap->Prop}{d:DefRec}{K:Params->Frag}{k:Nat}(hr:fq k qT)(hn:l.most=some 63)(hdf:d.params.defaults= [])
  (hY: ∀(w:World) (h:Heap),YP w h->(K w.params).In h)
  (F: ∀(w:World) (mg:Str->Option Value) (fa:Addr) (h:Heap),(K w.params).In h->h.Ns bM mg->mg d.name=some (.ref fa)->
   ∃fd:aV,(∀(s:ah) (u:Value),vi s fd ⟨[u], []⟩ [("script",u)])/\ ∀base:Heap,(K w.params).In base->base.Ns bM mg->mw l.prog w (K w.params) mg base (gI l.prog w) k fa fd ["script"] (AL (K w.params))):
  PySem.W.WalkO q loose XP YP l.row.toRowW d [] (fun f vs=>PySem.call f vs):=
 L2.Gg (n:=63) (k:=k) (x:="script") (CX:=fun w=>gI l.prog w) (sp:=fun w=>AL (K w.params)) hn (by decide) hdf hr hY F (fun w H a ns hl _ hS=>by
  refine⟨ns,JA,fun _ z=>z.elim,⟨.ref a, [],rfl,⟨a,ns.map V.int,rfl, ?_,cA.of_ints ns⟩,rfl⟩,hl,fun d' e v H' _ dn=> ?_,fun C e=>by cases e⟩
  ·rcases hS with s | s
   ·exact .inl ⟨s,fun z=>z⟩
   ·exact .inr s
  ·cases e
   exact dn) fun w H s e s' z=>kA [] H s e s' z
section
variable {K:Frag}{M0:MP}{H0 Hs H:Hp}{γ:List (D×V)}{α:Nat->Addr}{ρ:eT}{σ:St}{D0 l:Addr}{as:List Addr}{rows:List (List Int)}{o:HO}
theorem Rep.view{i:Nat}{d:D}{v:V}(r:Rep K M0 H0 γ α ρ σ H)(hi:i < ρ.length)(hσ:σ[i]? =some (some v))(h:Dn K (MM M0 ρ α) H d v):Rep K M0 H0 γ α (ρ.set i (.im d)) σ H:=by
 have e:σ.set i (some v)=σ:=by
  have:=Fc σ i
  rw [hσ]at this
  exact this
 have h':=r.set_im hi h
 rwa [e]at h'
end
section
variable {X:Cx}{ρ:eT}{M0:MP}{H0 Hs H:Hp}{γ:List (D×V)}{α:Nat->Addr}{σ:St}{En:Ends}{body:List Stmt}{b e tg:Expr}{d:D}{ds:List D}{pos p1 p2 p3 p4:Pos}{x:Str}{i:Nat}{D0 l:Addr}{as:List Addr}{rows:List (List Int)}{xs:List V}
theorem K_(hi:X.N[i]? =some x)(hv:yy X.env.scope x)(R:Rep X.K M0 H0 γ α ρ σ H)(hσ:σ[i]? =some (some (.ref l)))(hl:H l=some (.lst xs))(hz:xs.length < 1000000)(he:av X ρ e d)
  (q: ∀H1 v,bJ H H1->Dn X.K (MM M0 ρ α) H1 d v->En.nx σ (upd H1 l (.lst (xs ++ [v]))))(mc:Kg X (.Name x p1) "append" e p2 p3)(hd:(x==("__debug__":Str))=false:=by decide)(hcd:(x==("__classdict__":Str))=false:=by decide)
  (hsw:cQ (.Call (.Attribute (.Name x p1) "append" p2) [e] [] p3) none pos.line X.env=pure false:=by rfl):tS X (.Expr (.Call (.Attribute (.Name x p1) "append" p2) [e] [] p3) pos) En σ H:=by
 obtain⟨m1,m2,m3,m4⟩:=mc
 refine(nB (Fx mB PySem.F.slot_list_append PySem.F.type_list_append nD (lU hi hv hd hcd) wu m1 m2 m3 m4 rfl) hsw).to ?_
 refine⟨_,hσ, .inl ⟨rfl,_,ox.of hl⟩,(aP.cons he aP.nil m4) M0 H0 γ α σ H _ R fun vs H1 s y=> ?_⟩
 obtain⟨v,r,rfl,e1,e2⟩:=y
 cases e2
 exact⟨l,xs,v,rfl,rfl,s _ _ hl,Az hz,q H1 v s e1⟩
end
end Z
namespace Z
open PySem PySem.Spec PySem.W PyProof.Rows
abbrev Kd:=PyProof.Rows.Keyed
structure mH(S:Kd->Prop)(lt:Kd->Kd->Bool):Prop where
 tot: ∀x y,S x->S y->x≠y->lt x y=false->lt y x=true
 DI: ∀x y,lt x y=true->lt y x=false
 tr: ∀x y z,lt x y=true->lt y z=true->lt x z=true
def sD(prog:aq)(w:World)(A:bh)(s:ah)(κ:jL)(S:Kd->Prop)(lt:Kd->Kd->Bool):Prop:=
 ∀(x y:Kd) (Q:Bool->ah->Prop),S x->S y->Q (lt x y) s->wpAny (model prog w) A (keyLt' κ x.1 y.1) Q (fun _ _=>False) s
def HU:Bool->Kd->Array Kd->Nat->Nat->Nat->StateT bZ Sem (Option Nat):=sortPriv% PySem.Builtin.gallop
section
variable {prog:aq}{w:World}{A:bh}{E:Value->ah->Prop}{s:ah}{κ:jL}{S:Kd->Prop}{lt:Kd->Kd->Bool}{st:bZ}
theorem sJ{x y:Kd}{Q:Option Bool->bZ->Prop}(c:sD prog w A s κ S lt)(hk:kindOf st=κ)(hx:S x)(hy:S y)(h:Q (some (lt x y)) st):wpS (model prog w) A E s (lt' x y) Q st:=by
 rw [lt'_eq]
 refine aB (mW ?_)
 rw [hk]
 refine aB (qV (mf (bN (c x y (fun b s'=>b=lt x y/\s'=s) hx hy ⟨rfl,rfl⟩) ?_ fun _ _ z=>z.elim)))
 rintro b s' ⟨rfl,rfl⟩
 exact⟨rfl,aI h⟩
theorem cK{arr:Array Kd}{i:Nat}{x:Kd}{Q:Kd->bZ->Prop}(hi:arr[i]? =some x)(h:Q x st):wpS (model prog w) A E s (elem' arr i) Q st:=by
 rw [elem'_eq,hi]
 exact aI h
theorem Hj{left:Bool}{key:Kd}{arr:Array Kd}{i:Nat}{x:Kd}{Q:Option Bool->bZ->Prop}(o:mH S lt)(c:sD prog w A s κ S lt)(hk:kindOf st=κ)(hi:arr[i]? =some x)(hx:S x)(hy:S key)(hne:x≠key)(h:Q (some (lt x key)) st):
  wpS (model prog w) A E s (do let x<-elem' arr i; if left=true then lt' x key else do let r<-lt' key x; pure (r.map (!·))) Q st:=by
 refine aB (cK hi ?_)
 cases left with
 | true=>exact sJ c hk hx hy h
 | false=>
  refine aB (sJ c hk hy hx (aI ?_))
  have:(!lt key x)=lt x key:=by
   cases e:lt x key with
   | true=>rw [o.DI _ _ e]; rfl
   | false=>rw [o.tot _ _ hx hy hne e]; rfl
  show Q (some (!lt key x)) st
  rw [this]
  exact h
theorem s9{n lo hi:Nat}{p:Nat->Bool}{ω:Type}{f:Nat->Option ω×Nat×Nat->StateT bZ Sem (ForInStep (Option ω×Nat×Nat))}{Q:Option ω×Nat×Nat->bZ->Prop}
  (hf: ∀x lo hi (Q':ForInStep (Option ω×Nat×Nat)->bZ->Prop),hi<=n->(hi<=lo->Q' (.done (none,lo,hi)) st)->(lo < hi->p (lo+(hi - lo) / 2)=true->Q' (.yield (none,lo+(hi - lo) / 2+1,hi)) st)->(lo < hi->p (lo+(hi - lo) / 2)=false->Q' (.yield (none,lo,lo+(hi - lo) / 2)) st)->wpS (model prog w) A E s (f x (none,lo,hi)) Q' st)
  (hp: ∀i j,i<=j->j < n->p j=true->p i=true)(h1:lo<=hi)(h2:hi<=n)(h3: ∀i,i < lo->p i=true)(h4: ∀i,hi<=i->i < n->p i=false)
  (h: ∀k,k<=n->(∀i,i < k->p i=true)->(∀i,k<=i->i < n->p i=false)->Q (none,k,k) st):wpS (model prog w) A E s (forIn [0:n] (none,lo,hi) f) Q st:=by
 have dn: ∀i j,i<=j->j < n->p i=false->p j=false:=fun i j hij hj e=>by
  cases e2:p j with
  | false=>rfl
  | true=>rw [hp i j hij hj e2]at e; cases e
 refine c9 (I:=fun x c st'=>st'=st/\ ∃lo hi,c=(none,lo,hi)/\lo<=hi/\hi<=n/\hi - lo<=n - x/\(∀i,i < lo->p i=true)/\(∀i,hi<=i->i < n->p i=false)) ?_ ?_ ⟨rfl,lo,hi,rfl,h1,h2,by omega,h3,h4⟩
 ·rintro x c st' _ hx ⟨rfl,lo,hi,rfl,h1,h2,h5,h3,h4⟩
  refine hf x lo hi _ h2 (fun e=> ?_) (fun e q=>⟨rfl,_,_,rfl,by omega,h2,by omega,fun i hi'=>hp i _ (by omega) (by omega) q,h4⟩) fun e q=>⟨rfl,_,_,rfl,by omega,by omega,by omega,h3,fun i hi' hn=>dn _ i hi' hn q⟩
  have:lo=hi:=by omega
  subst this
  exact h lo h2 h3 h4
 ·rintro c st' ⟨rfl,lo,hi,rfl,h1,h2,h5,h3,h4⟩
  have:lo=hi:=by omega
  subst this
  exact h lo h2 h3 h4
set_option maxHeartbeats 1000000 in
theorem i4{left:Bool}{key:Kd}{arr:Array Kd}{base n hint:Nat}{g:Nat->Kd}{Q:Option Nat->bZ->Prop}(o:mH S lt)(c:sD prog w A s κ S lt)(hk:kindOf st=κ)
  (hg: ∀i,i < n->arr[base+i]? =some (g i))(hS: ∀i,i < n->S (g i))(hne: ∀i,i < n->g i≠key)(hy:S key)(hm: ∀i j,i < j->j < n->lt (g i) (g j)=true)(hh:hint < n)
  (h: ∀k,k<=n->(∀i,i < k->lt (g i) key=true)->(∀i,k<=i->i < n->lt (g i) key=false)->Q (some k) st):wpS (model prog w) A E s (HU left key arr base n hint) Q st:=by
 have far: ∀i,i < n-> ∀Q':Option Bool->bZ->Prop,Q' (some (lt (g i) key)) st->wpS (model prog w) A E s (do let x<-elem' arr (base+i); if left=true then lt' x key else do let r<-lt' key x; pure (r.map (!·))) Q' st:=fun i hi Q' hq=>Hj o c hk (hg i hi) (hS i hi) hy (hne i hi) hq
 have up: ∀i j,i<=j->j < n->lt (g j) key=true->lt (g i) key=true:=fun i j hij hj e=>by
  rcases Nat.lt_or_eq_of_le hij with z | rfl
  ·exact o.tr _ _ _ (hm i j z hj) e
  ·exact e
 have dn: ∀i j,i<=j->j < n->lt (g i) key=false->lt (g j) key=false:=fun i j hij hj e=>by
  cases e2:lt (g j) key with
  | false=>rfl
  | true=>rw [up i j hij hj e2]at e; cases e
 refine aB (far hint hh _ ?_)
 cases eh:lt (g hint) key with
 | true=>
  dsimp only
  rw [if_pos rfl]
  refine aB (eJ (c9 (I:=fun x c st'=>st'=st/\ ∃la ofs,c=(none,la,ofs)/\la < ofs/\x+1<=ofs/\hint+la < n/\lt (g (hint+la)) key=true)
   (Q:=fun c st'=>st'=st/\ ∃la ofs,c=(none,la,ofs)/\la < ofs/\hint+la < n/\lt (g (hint+la)) key=true/\(n - hint<=ofs\/(hint+ofs < n/\lt (g (hint+ofs)) key=false))) ?_ ?_ ⟨rfl,0,1,rfl,by omega,by omega,by omega,eh⟩) ?_)
  ·rintro x c st' _ hx ⟨rfl,la,ofs,rfl,l1,l2,l3,l4⟩
   dsimp only
   by_cases z:ofs>=n - hint
   ·rw [if_pos z]
    exact aI ⟨rfl,la,ofs,rfl,l1,l3,l4, .inl z⟩
   ·rw [if_neg z]
    refine aB (far (hint+ofs) (by omega) _ ?_)
    cases em:lt (g (hint+ofs)) key with
    | true=>exact aI ⟨rfl,ofs,2 * ofs+1,rfl,by omega,by omega,by omega,em⟩
    | false=>exact aI ⟨rfl,la,ofs,rfl,l1,l3,l4, .inr ⟨by omega,em⟩⟩
  ·rintro c st' ⟨rfl,la,ofs,rfl,l1,l2,l3,l4⟩
   exact⟨rfl,la,ofs,rfl,l1,l3,l4, .inl (by omega)⟩
  ·rintro c st' ⟨rfl,la,ofs,rfl,l1,l3,l4,l5⟩
   dsimp only
   refine aB (s9 (p:=fun i=>lt (g i) key) (fun x lo hi Q' hn k1 k2 k3=> ?_) up (by omega) (by omega) (fun i hi=>up i _ (by omega) l3 l4) (fun i hi hn=> ?_) fun k hk h1 h2=>aI (h k hk h1 h2))
   ·dsimp only
    by_cases z:lo>=hi
    ·rw [if_pos z]
     exact aI (k1 z)
    ·rw [if_neg z]
     refine aB (far (lo+(hi - lo) / 2) (by omega) _ ?_)
     cases em:lt (g (lo+(hi - lo) / 2)) key with
     | true=>exact aI (k2 (by omega) em)
     | false=>exact aI (k3 (by omega) em)
   ·rcases l5 with l5 | ⟨l5,l6⟩
    ·omega
    ·exact dn (hint+ofs) i (by omega) hn l6
 | false=>
  dsimp only
  rw [if_neg (by simp)]
  refine aB (eJ (c9 (I:=fun x c st'=>st'=st/\ ∃la ofs,c=(none,la,ofs)/\la < ofs/\x+1<=ofs/\la<=hint/\lt (g (hint - la)) key=false)
   (Q:=fun c st'=>st'=st/\ ∃la ofs,c=(none,la,ofs)/\la < ofs/\la<=hint/\lt (g (hint - la)) key=false/\(hint+1<=ofs\/(ofs<=hint/\lt (g (hint - ofs)) key=true))) ?_ ?_ ⟨rfl,0,1,rfl,by omega,by omega,by omega,eh⟩) ?_)
  ·rintro x c st' _ hx ⟨rfl,la,ofs,rfl,l1,l2,l3,l4⟩
   dsimp only
   by_cases z:ofs>=hint+1
   ·rw [if_pos z]
    exact aI ⟨rfl,la,ofs,rfl,l1,l3,l4, .inl z⟩
   ·rw [if_neg z]
    refine aB (far (hint - ofs) (by omega) _ ?_)
    cases em:lt (g (hint - ofs)) key with
    | true=>exact aI ⟨rfl,la,ofs,rfl,l1,l3,l4, .inr ⟨by omega,em⟩⟩
    | false=>exact aI ⟨rfl,ofs,2 * ofs+1,rfl,by omega,by omega,by omega,em⟩
  ·rintro c st' ⟨rfl,la,ofs,rfl,l1,l2,l3,l4⟩
   exact⟨rfl,la,ofs,rfl,l1,l3,l4, .inl (by omega)⟩
  ·rintro c st' ⟨rfl,la,ofs,rfl,l1,l3,l4,l5⟩
   dsimp only
   refine aB (s9 (p:=fun i=>lt (g i) key) (fun x lo hi Q' hn k1 k2 k3=> ?_) up (by omega) (by omega) (fun i hi=> ?_) (fun i hi hn=>dn (hint - la) i hi hn l4) fun k hk h1 h2=>aI (h k hk h1 h2))
   ·dsimp only
    by_cases z:lo>=hi
    ·rw [if_pos z]
     exact aI (k1 z)
    ·rw [if_neg z]
     refine aB (far (lo+(hi - lo) / 2) (by omega) _ ?_)
     cases em:lt (g (lo+(hi - lo) / 2)) key with
     | true=>exact aI (k2 (by omega) em)
     | false=>exact aI (k3 (by omega) em)
   ·rcases l5 with l5 | ⟨l5,l6⟩
    ·omega
    ·exact up i (hint - ofs) (by omega) (by omega) l6
end
abbrev k_(lt:Kd->Kd->Bool)(l:List Kd):Prop:=l.Pairwise fun x y=>lt x y=true
structure iG(lt:Kd->Kd->Bool)(a b out:List Kd)(ia ib:Nat):Prop where
 ha:ia<=a.length
 hb:ib<=b.length
 perm:out.Perm (a.take ia ++ b.take ib)
 mQ:k_ lt out
 lo: ∀x∈out, ∀y,(y∈a.drop ia\/y∈b.drop ib)->lt x y=true
section
variable {lt:Kd->Kd->Bool}{a b out:List Kd}{ia ib k:Nat}
theorem iG.swap(m:iG lt a b out ia ib):iG lt b a out ib ia:=⟨m.hb,m.ha,m.perm.trans cF,m.mQ,fun x hx y hy=>m.lo x hx y hy.symm⟩
theorem DQ(a:List Kd)(i k:Nat):a.drop i=(a.drop i).take k ++ a.drop (i+k):=by
 rw [<-List.drop_drop,aU]
theorem iG.pushA(m:iG lt a b out ia ib)(hk:ia+k<=a.length)(sa:k_ lt a)(h: ∀x∈(a.drop ia).take k, ∀y∈b.drop ib,lt x y=true):iG lt a b (out ++ (a.drop ia).take k) (ia+k) ib:=by
 have sd:k_ lt (a.drop ia):=cU (lN ia a) sa
 have cut:=DQ a ia k
 have sd':=sd
 rw [cut]at sd'
 have c:=bO.mp sd'
 refine⟨hk,m.hb, ?_,bO.mpr ⟨m.mQ,c.1,fun x hx y hy=>m.lo x hx y (.inl (gV hy))⟩,fun x hx y hy=> ?_⟩
 ·have e:a.take (ia+k)=a.take ia ++ (a.drop ia).take k:=List.take_add
  rw [e]
  refine(m.perm.append_right _).trans ?_
  rw [aM,aM]
  exact dQ _ cF
 ·rcases bE.mp hx with hx | hx
  ·exact m.lo x hx y (hy.imp (fun z=>by rw [cut]; exact aT _ z) id)
  ·rcases hy with hy | hy
   ·exact c.2.2 x hx y hy
   ·exact h x hx y hy
theorem iG.pushB(m:iG lt a b out ia ib)(hk:ib+k<=b.length)(sb:k_ lt b)(h: ∀x∈(b.drop ib).take k, ∀y∈a.drop ia,lt x y=true):iG lt a b (out ++ (b.drop ib).take k) ia (ib+k):=(m.swap.pushA hk sb h).swap
theorem take_one{x:Kd}{i:Nat}(h:a[i]? =some x):(a.drop i).take 1= [x]:=by
 obtain⟨hi,e⟩:=aD.mp h
 rw [lF hi,e]
 rfl
theorem above{S:Kd->Prop}(o:mH S lt)(sa:k_ lt a){x y z:Kd}{i:Nat}(h:a[i]? =some x)(hz:lt z x=true)(hy:y∈a.drop i):lt z y=true:=by
 obtain⟨hi,e⟩:=aD.mp h
 have sd:k_ lt (a.drop i):=cU (lN i a) sa
 rw [lF hi,e]at hy sd
 rcases aK.mp hy with rfl | hy
 ·exact hz
 ·exact o.tr _ _ _ hz ((bW.mp sd).1 y hy)
theorem iG.finB(m:iG lt a b out ia ib)(sa:k_ lt a)(sb:k_ lt b)(h: ∀x∈b.drop ib, ∀y∈a.drop ia,lt x y=true):(out ++ b.drop ib ++ a.drop ia).Perm (a ++ b)/\k_ lt (out ++ b.drop ib ++ a.drop ia):=by
 constructor
 ·have e1:(a ++ b).Perm ((a.take ia ++ a.drop ia) ++ (b.take ib ++ b.drop ib)):=by rw [aU,aU]
  refine j_ ?_ e1.symm
  rw [aM]
  refine(m.perm.append_right _).trans ?_
  rw [aM,aM]
  refine dQ _ ?_
  rw [<-aM]
  exact cF
 ·refine bO.mpr ⟨bO.mpr ⟨m.mQ,cU (lN ib b) sb,fun x hx y hy=>m.lo x hx y (.inr hy)⟩,cU (lN ia a) sa,fun x hx y hy=> ?_⟩
  rcases bE.mp hx with hx | hx
  ·exact m.lo x hx y (.inl hy)
  ·exact h x hx y hy
theorem iG.finA(m:iG lt a b out ia ib)(sa:k_ lt a)(sb:k_ lt b)(h: ∀x∈a.drop ia, ∀y∈b.drop ib,lt x y=true):(out ++ a.drop ia ++ b.drop ib).Perm (a ++ b)/\k_ lt (out ++ a.drop ia ++ b.drop ib):=
 let⟨p,q⟩:=m.swap.finB sb sa h; ⟨p.trans cF,q⟩
end
def gz(st st':bZ):Prop:=kindOf st'=kindOf st/\arrOf st'=arrOf st/\b_ st'=b_ st/\gY st'=gY st
theorem gz.refl(st:bZ):gz st st:=⟨rfl,rfl,rfl,rfl⟩
theorem gz.trans{a b c:bZ}(x:gz a b)(y:gz b c):gz a c:=⟨y.1.trans x.1,y.2.1.trans x.2.1,y.2.2.1.trans x.2.2.1,y.2.2.2.trans x.2.2.2⟩
def Gi:Nat->StateT bZ Sem Unit:=sortPriv% PySem.Builtin.setMinGallop
def Dp:Array Kd->Array Kd->StateT bZ Sem (Array Kd):=sortPriv% PySem.Builtin.mergeLo
def Ds:Array Kd->Array Kd->StateT bZ Sem (Array Kd):=sortPriv% PySem.Builtin.mergeHi
section
variable {prog:aq}{w:World}{A:bh}{E:Value->ah->Prop}{s:ah}{κ:jL}{S:Kd->Prop}{lt:Kd->Kd->Bool}{st:bZ}
theorem lY{g:Nat}{Q:Unit->bZ->Prop}(h: ∀st',gz st st'->Q () st'):wpS (model prog w) A E s (Gi g) Q st:=mX (h _ ⟨rfl,rfl,rfl,rfl⟩)
structure nY(S:Kd->Prop)(lt:Kd->Kd->Bool)(a b:Array Kd):Prop where
 sa:k_ lt a.toList
 sb:k_ lt b.toList
 Sa: ∀x∈a.toList,S x
 Sb: ∀x∈b.toList,S x
 ne: ∀x∈a.toList, ∀y∈b.toList,x≠y
 na:0 < a.size
 nb:0 < b.size
 fst: ∀x∈a.toList,lt (b[0]'nb) x=true
 lst: ∀x∈b.toList,lt x (a[a.size - 1]'(by omega))=true
theorem bX{α:Type}{c:Prop}{dc:Decidable c}{m1 m2:StateT bZ Sem α}{Q:α->bZ->Prop}(h1:c->wpS (model prog w) A E s m1 Q st)(h2: ¬c->wpS (model prog w) A E s m2 Q st):wpS (model prog w) A E s (if c then m1 else m2) Q st:=by
 by_cases e:c
 ·rw [if_pos e]; exact h1 e
 ·rw [if_neg e]; exact h2 e
theorem wm(a:Array Kd)(i k:Nat):(a.extract i (i+k)).toList=(a.toList.drop i).take k:=by
 rw [jJ,lG,iZ]
theorem rB(a:Array Kd)(i:Nat):(a.extract i).toList=a.toList.drop i:=by
 rw [jJ,lG,dB]
 rw [bw,aj]
 omega
def Res(lt:Kd->Kd->Bool)(a b r:Array Kd):Prop:=r.toList.Perm (a.toList ++ b.toList)/\k_ lt r.toList
theorem nY.ga{a b:Array Kd}(t:nY S lt a b){i:Nat}(h:i < a.size):S a[i]:=t.Sa _ (by simp)
theorem nY.gb{a b:Array Kd}(t:nY S lt a b){i:Nat}(h:i < b.size):S b[i]:=t.Sb _ (by simp)
theorem at_(a:Array Kd){i:Nat}(h:i < a.size):a[i]? =some a[i]:=by simp [h]
theorem Gj(a:Array Kd){i:Nat}(h:i < a.size):a.toList[i]? =some a[i]:=by simp [h]
theorem nY.nab{a b:Array Kd}(t:nY S lt a b){i j:Nat}(h:i < a.size)(h':j < b.size):a[i]≠b[j]:=t.ne _ (by simp) _ (by simp)
theorem nY.upA{a b:Array Kd}(t:nY S lt a b){i j:Nat}(h:i < j)(h':j < a.size):lt a[i] a[j]=true:=by
 have:=b8.mp t.sa i j (by rw [aj]; omega) (by rw [aj]; omega) h
 simpa using this
theorem nY.upB{a b:Array Kd}(t:nY S lt a b){i j:Nat}(h:i < j)(h':j < b.size):lt b[i] b[j]=true:=by
 have:=b8.mp t.sb i j (by rw [aj]; omega) (by rw [aj]; omega) h
 simpa using this
theorem k9{a:Array Kd}{i:Nat}{y:Kd}(h:y∈a.toList.drop i): ∃j,i<=j/\ ∃hj:j < a.size,y=a[j]:=by
 obtain⟨k,hk,e⟩:=aN.mp h
 rw [bw,aj]at hk
 refine⟨i+k,by omega,by omega, ?_⟩
 rw [<-e,dE]
 simp
theorem AX{a:Array Kd}{i k:Nat}{y:Kd}(h:y∈(a.toList.drop i).take k): ∃j,i<=j/\j < i+k/\ ∃hj:j < a.size,y=a[j]:=by
 obtain⟨m,hm,e⟩:=aN.mp h
 rw [a8,bw,aj]at hm
 refine⟨i+m,by omega,by omega,by omega, ?_⟩
 rw [<-e,fA,dE]
 simp
section
variable {a b out:Array Kd}{ia ib:Nat}
theorem nY.doneB(t:nY S lt a b)(m:iG lt a.toList b.toList out.toList ia ib)(h:b.size<=ib\/a.size<=ia):Res lt a b (out ++ a.extract ia ++ b.extract ib):=by
 have:=m.finA t.sa t.sb fun x hx y hy=>by
  obtain⟨j,h1,h2,_⟩:=k9 hx
  obtain⟨j',h1',h2',_⟩:=k9 hy
  omega
 unfold Res
 rw [cm,cm,rB,rB]
 exact this
theorem nY.lastA(t:nY S lt a b)(m:iG lt a.toList b.toList out.toList ia ib)(h:ia+1=a.size):Res lt a b (out ++ b.extract ib ++ a.extract ia):=by
 have:=m.finB t.sa t.sb fun x hx y hy=>by
  obtain⟨j,h1,h2,rfl⟩:=k9 hx
  obtain⟨j',h1',h2',rfl⟩:=k9 hy
  have:=t.lst b[j] (by simp)
  have e:j'=a.size - 1:=by omega
  subst e
  exact this
 unfold Res
 rw [cm,cm,rB,rB]
 exact this
theorem nY.oneB(o:mH S lt)(t:nY S lt a b)(m:iG lt a.toList b.toList out.toList ia ib)(hb:ib < b.size)(h: ∀y∈a.toList.drop ia,lt b[ib] y=true):iG lt a.toList b.toList (out.push b[ib]).toList ia (ib+1):=by
 have:=m.pushB (k:=1) (by rw [aj]; omega) t.sb fun x hx y hy=>by
  rw [take_one (Gj b hb)]at hx
  rcases aJ.mp hx with rfl
  exact h y hy
 rw [take_one (Gj b hb)]at this
 rw [je]
 exact this
theorem nY.oneA(o:mH S lt)(t:nY S lt a b)(m:iG lt a.toList b.toList out.toList ia ib)(ha:ia < a.size)(h: ∀y∈b.toList.drop ib,lt a[ia] y=true):iG lt a.toList b.toList (out.push a[ia]).toList (ia+1) ib:=by
 have:=m.pushA (k:=1) (by rw [aj]; omega) t.sa fun x hx y hy=>by
  rw [take_one (Gj a ha)]at hx
  rcases aJ.mp hx with rfl
  exact h y hy
 rw [take_one (Gj a ha)]at this
 rw [je]
 exact this
end
def LZ(lt:Kd->Kd->Bool)(a b:Array Kd)(n:Nat)(c:Option (Array Kd)×Array Kd×Nat×Nat×Nat×Nat×Nat):Prop:=
 ∃out ia ib mg ac bc,c=(none,out,ia,ib,mg,ac,bc)/\iG lt a.toList b.toList out.toList ia ib/\ib < b.size/\ia+1 < a.size/\n<=ia+ib
def M6(lt:Kd->Kd->Bool)(a b:Array Kd)(n:Nat)(c:Option (Array Kd)×Array Kd×Nat×Nat×Nat×Nat×Nat):Prop:=
 (∃r rest,c=(some r,rest)/\Res lt a b r)\/LZ lt a b n c
def L_(lt:Kd->Kd->Bool)(a b:Array Kd)(n:Nat)(L:Prop):ForInStep (Option (Array Kd)×Array Kd×Nat×Nat×Nat×Nat×Nat)->Prop
 | .done c=>L/\M6 lt a b n c
 | .yield c=>L/\LZ lt a b n c
set_option maxHeartbeats 4000000 in
theorem yd{a b:Array Kd}{Q:Array Kd->bZ->Prop}(o:mH S lt)(c:sD prog w A s κ S lt)(hk:kindOf st=κ)(t:nY S lt a b)
  (h: ∀(res:Array Kd) (st':bZ),gz st st'->Res lt a b res->Q res st'):wpS (model prog w) A E s (Dp a b) Q st:=by
 have na:=t.na
 have nb:=t.nb
 have m0:iG lt a.toList b.toList (#[b[0]]:Array Kd).toList 0 1:=by
  have:iG lt a.toList b.toList [] 0 0:=⟨bQ _,bQ _,dD _,fw,fun x hx=>by cases hx⟩
  exact nY.oneB (out:= #[]) o t this nb t.fst
 refine aB (qV (e7 ⟨rfl, ?_⟩))
 refine aB (cK (at_ b nb) ?_)
 refine bX (fun e=> ?_) fun e1=> ?_
 ·have e:(1==b.size)=true:=e
  exact aI (h _ _ (.refl _) (t.doneB m0 (.inl (by have:=beq_iff_eq.mp e; omega))))
 have e1: ¬1=b.size:=fun z=>e1 (beq_iff_eq.mpr z)
 refine bX (fun e=> ?_) fun e2=> ?_
 ·have e:(0+1==a.size)=true:=e
  exact aI (h _ _ (.refl _) (t.lastA m0 (by have:=beq_iff_eq.mp e; omega)))
 have e2: ¬0+1=a.size:=fun z=>e2 (beq_iff_eq.mpr z)
 refine aB (mW ?_)
 refine aB (eJ (c9 (I:=fun x c st'=>gz st st'/\ ∃out ia ib mg,c=(none,out,ia,ib,mg)/\iG lt a.toList b.toList out.toList ia ib/\ib < b.size/\ia+1 < a.size/\x+1<=ia+ib)
   (Q:=fun c st'=> ∃r rest,c=(some r,rest)/\gz st st'/\Res lt a b r) ?_ ?_ ⟨.refl _,_,0,1,_,rfl,m0,by omega,by omega,by omega⟩) ?_)
 ·rintro x c st1 _ hx ⟨L1,out,ia,ib,mg,rfl,m,hb1,ha1,hp1⟩
  have k1:kindOf st1=κ:=L1.1.trans hk
  refine aB (eJ (c9 (I:=fun y c st'=>st'=st1/\ ∃out' ia' ib' ac bc,c=(none,out',ia',ib',ac,bc)/\iG lt a.toList b.toList out'.toList ia' ib'/\ib' < b.size/\ia'+1 < a.size/\y+(ia+ib)<=ia'+ib')
   (Q:=fun c st'=>st'=st1/\((∃r rest,c=(some r,rest)/\Res lt a b r)\/ ∃out' ia' ib' ac bc,c=(none,out',ia',ib',ac,bc)/\iG lt a.toList b.toList out'.toList ia' ib'/\ib' < b.size/\ia'+1 < a.size/\ia+ib+1<=ia'+ib')) ?_ ?_ ⟨rfl,out,ia,ib,_,_,rfl,m,hb1,ha1,by omega⟩) ?_)
  ·rintro y c st' _ hy ⟨rfl,out',ia',ib',ac,bc,rfl,m',hb',ha',hp'⟩
   have ha0:ia' < a.size:=by omega
   refine aB (cK (at_ b hb') ?_)
   refine aB (cK (at_ a ha0) ?_)
   refine aB (sJ c k1 (t.gb hb') (t.ga ha0) ?_)
   cases eq:lt b[ib'] a[ia']with
   | true=>
    have m2:=t.oneB o m' hb' fun y hy=>above o t.sa (Gj a ha0) eq hy
    refine aB (cK (at_ b hb') ?_)
    refine bX (fun e=> ?_) fun e=> ?_
    ·have e:(ib'+1==b.size)=true:=e
     exact aI ⟨rfl, .inl ⟨_,_,rfl,t.doneB (ia:=ia') (ib:=ib'+1) m2 (.inl (by have:=beq_iff_eq.mp e; omega))⟩⟩
    ·have e: ¬ib'+1=b.size:=fun z=>e (beq_iff_eq.mpr z)
     refine bX (fun e3=>aI ?_) fun e3=>aI ?_
     ·exact⟨rfl, .inr ⟨_,ia',ib'+1,_,_,rfl,m2,by omega,by omega,by omega⟩⟩
     ·exact⟨rfl,_,ia',ib'+1,_,_,rfl,m2,by omega,by omega,by omega⟩
   | false=>
    have eq2:=o.tot _ _ (t.gb hb') (t.ga ha0) (fun z=>t.nab ha0 hb' z.symm) eq
    have m2:=t.oneA o m' ha0 fun y hy=>above o t.sb (Gj b hb') eq2 hy
    refine aB (cK (at_ a ha0) ?_)
    refine bX (fun e=> ?_) fun e=> ?_
    ·have e:(ia'+1+1==a.size)=true:=e
     exact aI ⟨rfl, .inl ⟨_,_,rfl,t.lastA (ia:=ia'+1) (ib:=ib') m2 (by have:=beq_iff_eq.mp e; omega)⟩⟩
    ·have e: ¬ia'+1+1=a.size:=fun z=>e (beq_iff_eq.mpr z)
     refine bX (fun e3=>aI ?_) fun e3=>aI ?_
     ·exact⟨rfl, .inr ⟨_,ia'+1,ib',_,_,rfl,m2,by omega,by omega,by omega⟩⟩
     ·exact⟨rfl,_,ia'+1,ib',_,_,rfl,m2,by omega,by omega,by omega⟩
  ·rintro c st' ⟨rfl,out',ia',ib',ac,bc,rfl,m',hb',ha',hp'⟩
   exact⟨rfl, .inr ⟨_,ia',ib',_,_,rfl,m',hb',ha',by omega⟩⟩
  ·rintro c st' ⟨rfl,⟨r,rest,rfl,hr⟩ | ⟨out1,ia1,ib1,ac1,bc1,rfl,m1,hb2,ha2,hp2⟩⟩
   ·exact aI ⟨_,_,rfl,L1,hr⟩
   ·refine aB (qV (e7 ⟨rfl, ?_⟩))
    refine aB (eJ (c9 (I:=fun y c st'=>gz st st'/\LZ lt a b (ia1+ib1) c)
     (Q:=fun c st'=>gz st st'/\M6 lt a b (ia1+ib1) c) ?_ ?_ ⟨L1,_,_,_,_,_,_,rfl,m1,hb2,ha2,ay _⟩) ?_)
    ·rintro y c st' _ hy ⟨L',out',ia',ib',mg',ac,bc,rfl,m',hb',ha',hp'⟩
     have ha0:ia' < a.size:=by omega
     extract_lets v1 v2 v3 v4 v5 v6 v7 v8 v9 v10 v11 v12 jp v14
     have q2:out'=v2:=rfl
     have q4:ia'=v4:=rfl
     have q6:ib'=v6:=rfl
     have q11:bc=v11:=rfl
     have q12:ib'+1=v12:=rfl
     clear_value v2 v4 v6 v11 v12
     subst q2 q4 q6 q11 q12
     have J: ∀g,wpS (model prog w) A E s (jp () g) (fun r st2=>L_ lt a b (ia1+ib1) (gz st st2) r) st':=fun g=>by
      refine aB (lY fun st3 L3=> ?_)
      have L3:=L'.trans L3
      have k3:kindOf st3=κ:=L3.1.trans hk
      refine aB (cK (at_ b hb') ?_)
      refine aB (i4 (g:=fun i=>a.getD (ia'+i) b[ib']) o c k3 (fun i hi=> ?_) (fun i hi=> ?_) (fun i hi=> ?_) (t.gb hb') (fun i j hij hj=> ?_) (by omega) fun k hk0 g1 g2=> ?_)
      ·have:ia'+i < a.size:=by omega
       simp [this]
      ·have:ia'+i < a.size:=by omega
       simpa [this]using t.ga this
      ·have:ia'+i < a.size:=by omega
       simpa [this]using t.nab this hb'
      ·have h1:ia'+i < a.size:=by omega
       have h2:ia'+j < a.size:=by omega
       simpa [h1,h2]using t.upA (show ia'+i < ia'+j by omega) h2
      have m3:iG lt a.toList b.toList (out' ++ a.extract ia' (ia'+k)).toList (ia'+k) ib':=by
       rw [cm,wm]
       refine m'.pushA (by rw [aj]; omega) t.sa fun x hx y hy=> ?_
       obtain⟨j,j1,j2,hj,rfl⟩:=AX hx
       have z:=g1 (j - ia') (by omega)
       have e:ia'+(j - ia')=j:=by omega
       rw [e]at z
       have z:lt a[j] b[ib']=true:=by simpa [hj]using z
       exact above o t.sb (Gj b hb') z hy
      have u3: ∀y∈a.toList.drop (ia'+k),lt b[ib'] y=true:=fun y hy=>by
       obtain⟨j,j1,hj,rfl⟩:=k9 hy
       have z:=g2 (j - ia') (by omega) (by omega)
       have e:ia'+(j - ia')=j:=by omega
       rw [e]at z
       have z:lt a[j] b[ib']=false:=by simpa [hj]using z
       exact o.tot _ _ (t.ga hj) (t.gb hb') (t.nab hj hb') z
      dsimp -zeta only
      extract_lets ac2 jp2 out2 ia2
      have J2: ∀(out3:Array Kd) (ia3:Nat),iG lt a.toList b.toList out3.toList ia3 ib'->ia3+1 < a.size->ia'<=ia3->(∀y∈a.toList.drop ia3,lt b[ib'] y=true)->wpS (model prog w) A E s (jp2 () out3 ia3) (fun r st2=>L_ lt a b (ia1+ib1) (gz st st2) r) st3:=fun out3 ia3 m3 h3 l3 u3=>by
       have m4:=t.oneB o m3 hb' u3
       have ha3:ia3 < a.size:=by omega
       refine aB (cK (at_ b hb') ?_)
       refine bX (fun e=> ?_) fun e=> ?_
       ·have e:(ib'+1==b.size)=true:=e
        exact aI ⟨L3, .inl ⟨_,_,rfl,t.doneB (ia:=ia3) (ib:=ib'+1) m4 (.inl (by have:=beq_iff_eq.mp e; omega))⟩⟩
       have e: ¬ib'+1=b.size:=fun z=>e (beq_iff_eq.mpr z)
       refine aB (cK (at_ a ha3) ?_)
       refine aB (i4 (g:=fun i=>b.getD (ib'+1+i) a[ia3]) o c k3 (fun i hi=> ?_) (fun i hi=> ?_) (fun i hi=> ?_) (t.ga ha3) (fun i j hij hj=> ?_) (by omega) fun k2 hk2 r1 r2=> ?_)
       ·have:ib'+1+i < b.size:=by omega
        simp [this]
       ·have:ib'+1+i < b.size:=by omega
        simpa [this]using t.gb this
       ·have:ib'+1+i < b.size:=by omega
        simpa [this]using fun z=>t.nab ha3 this (Eq.symm z)
       ·have h1:ib'+1+i < b.size:=by omega
        have h2:ib'+1+j < b.size:=by omega
        simpa [h1,h2]using t.upB (show ib'+1+i < ib'+1+j by omega) h2
       have m5:iG lt a.toList b.toList (out3.push b[ib'] ++ b.extract (ib'+1) (ib'+1+k2)).toList ia3 (ib'+1+k2):=by
        rw [cm,wm]
        refine m4.pushB (by rw [aj]; omega) t.sb fun x hx y hy=> ?_
        obtain⟨j,j1,j2,hj,rfl⟩:=AX hx
        have z:=r1 (j - (ib'+1)) (by omega)
        have e:ib'+1+(j - (ib'+1))=j:=by omega
        rw [e]at z
        have z:lt b[j] a[ia3]=true:=by simpa [hj]using z
        exact above o t.sa (Gj a ha3) z hy
       have u5: ∀y∈b.toList.drop (ib'+1+k2),lt a[ia3] y=true:=fun y hy=>by
        obtain⟨j,j1,hj,rfl⟩:=k9 hy
        have z:=r2 (j - (ib'+1)) (by omega) (by omega)
        have e:ib'+1+(j - (ib'+1))=j:=by omega
        rw [e]at z
        have z:lt b[j] a[ia3]=false:=by simpa [hj]using z
        exact o.tot _ _ (t.gb hj) (t.ga ha3) (fun z=>t.nab ha3 hj z.symm) z
       dsimp -zeta only
       extract_lets bc2 ia6 jp3 out4 ib4
       have J3: ∀(out5:Array Kd) (ib5:Nat),iG lt a.toList b.toList out5.toList ia3 ib5->ib5 < b.size->ib'+1<=ib5->(∀y∈b.toList.drop ib5,lt a[ia3] y=true)->wpS (model prog w) A E s (jp3 () out5 ib5) (fun r st2=>L_ lt a b (ia1+ib1) (gz st st2) r) st3:=fun out5 ib5 m5 h5 l5 u5=>by
        have m6:=t.oneA o m5 ha3 u5
        refine aB (cK (at_ a ha3) ?_)
        refine bX (fun e=> ?_) fun e=> ?_
        ·have e:(ia3+1+1==a.size)=true:=e
         exact aI ⟨L3, .inl ⟨_,_,rfl,t.lastA (ia:=ia3+1) (ib:=ib5) m6 (by have:=beq_iff_eq.mp e; omega)⟩⟩
        ·have e: ¬ia3+1+1=a.size:=fun z=>e (beq_iff_eq.mpr z)
         refine bX (fun _=>aI ?_) fun _=>aI ?_
         ·exact⟨L3, .inr ⟨_,ia3+1,ib5,_,_,_,rfl,m6,h5,by omega,by omega⟩⟩
         ·exact⟨L3,_,ia3+1,ib5,_,_,_,rfl,m6,h5,by omega,by omega⟩
       refine bX (fun e2=> ?_) fun e2=> ?_
       ·refine bX (fun e3=> ?_) fun e3=> ?_
        ·have e3:(ib'+1+k2==b.size)=true:=e3
         exact aI ⟨L3, .inl ⟨_,_,rfl,t.doneB (ia:=ia3) (ib:=ib'+1+k2) m5 (.inl (by have:=beq_iff_eq.mp e3; omega))⟩⟩
        ·have e3: ¬ib'+1+k2=b.size:=fun z=>e3 (beq_iff_eq.mpr z)
         exact J3 _ _ m5 (by omega) (by omega) u5
       ·have z:k2=0:=by omega
        subst z
        exact J3 _ _ m4 (by omega) (by omega) u5
      refine bX (fun e2=> ?_) fun e2=> ?_
      ·refine bX (fun e3=> ?_) fun e3=> ?_
       ·have e3:(ia'+k+1==a.size)=true:=e3
        exact aI ⟨L3, .inl ⟨_,_,rfl,t.lastA (ia:=ia'+k) (ib:=ib') m3 (by have:=beq_iff_eq.mp e3; omega)⟩⟩
       ·have e3: ¬ia'+k+1=a.size:=fun z=>e3 (beq_iff_eq.mpr z)
        refine bX (fun e4=> ?_) fun e4=> ?_
        ·have e4:(ia'+k==a.size)=true:=e4
         exact aI ⟨L3, .inl ⟨_,_,rfl,t.doneB (ia:=ia'+k) (ib:=ib') m3 (.inr (by have:=beq_iff_eq.mp e4; omega))⟩⟩
        ·have e4: ¬ia'+k=a.size:=fun z=>e4 (beq_iff_eq.mpr z)
         exact J2 _ _ m3 (by omega) (by omega) u3
      ·have z:k=0:=by omega
       subst z
       exact J2 _ _ m' (by omega) (by omega) u3
     exact bX (fun _=>eJ (J _) fun r st2 z=>by cases r <;> exact z) fun _=>eJ (J _) fun r st2 z=>by cases r <;> exact z
    ·rintro c st' ⟨L',out',ia',ib',mg',ac,bc,rfl,m',hb',ha',hp'⟩
     exact⟨L', .inr ⟨_,_,_,_,_,_,rfl,m',hb',ha',hp'⟩⟩
    ·rintro c st' ⟨L',⟨r,rest,rfl,hr⟩ | ⟨out',ia',ib',mg',ac,bc,rfl,m',hb',ha',hp'⟩⟩
     ·exact aI ⟨_,_,rfl,L',hr⟩
     ·refine aB (lY fun st3 L3=>aI ?_)
      exact⟨L'.trans L3,_,ia',ib',_,rfl,m',hb',ha',by omega⟩
 ·rintro c st' ⟨L',out,ia,ib,mg,rfl,m,hb1,ha1,hp1⟩
  omega
 ·rintro c st' ⟨r,rest,rfl,L',hr⟩
  exact aI (h r st' L' hr)
end
structure iI(lt:Kd->Kd->Bool)(a b out:List Kd)(na nb:Nat):Prop where
 ha:na<=a.length
 hb:nb<=b.length
 perm:out.Perm (a.drop na ++ b.drop nb)
 mQ:k_ lt out
 hi: ∀x,(x∈a.take na\/x∈b.take nb)-> ∀y∈out,lt x y=true
section
variable {lt:Kd->Kd->Bool}{a b out:List Kd}{na nb k:Nat}
theorem iI.swap(m:iI lt a b out na nb):iI lt b a out nb na:=⟨m.hb,m.ha,m.perm.trans cF,m.mQ,fun x hx y hy=>m.hi x hx.symm y hy⟩
theorem Dj(a:List Kd){i n:Nat}(h:i<=n):a.take n=a.take i ++ (a.take n).drop i:=by
 have:=aU i (a.take n)
 rw [List.take_take,IT h]at this
 exact this.symm
theorem Cb(a:List Kd){i n:Nat}(h:i<=n)(hn:n<=a.length):a.drop i=(a.take n).drop i ++ a.drop n:=by
 have e:a=a.take n ++ a.drop n:=(aU n a).symm
 conv=>lhs; rw [e]
 exact ug (by rw [a8]; omega)
theorem iI.preA(m:iI lt a b out na nb)(hk:k<=na)(sa:k_ lt a)(h: ∀x∈(a.take na).drop k, ∀y∈b.take nb,lt y x=true):iI lt a b ((a.take na).drop k ++ out) k nb:=by
 have sd:k_ lt (a.take na):=cU (lL na a) sa
 have cut:=Dj a hk
 have sd':=sd
 rw [cut]at sd'
 have c:=bO.mp sd'
 have mm: ∀x,x∈(a.take na).drop k->x∈a.take na:=fun x hx=>jK hx
 refine⟨bu hk m.ha,m.hb, ?_,bO.mpr ⟨c.2.1,m.mQ,fun x hx y hy=>m.hi x (.inl (mm x hx)) y hy⟩,fun x hx y hy=> ?_⟩
 ·rw [Cb a hk m.ha,aM]
  exact dQ _ m.perm
 ·rcases bE.mp hy with hy | hy
  ·rcases hx with hx | hx
   ·exact c.2.2 x hx y hy
   ·exact h y hy x hx
  ·exact m.hi x (hx.imp (fun z=>by rw [cut]; exact dg _ z) id) y hy
theorem iI.preB(m:iI lt a b out na nb)(hk:k<=nb)(sb:k_ lt b)(h: ∀x∈(b.take nb).drop k, ∀y∈a.take na,lt y x=true):iI lt a b ((b.take nb).drop k ++ out) na k:=(m.swap.preA hk sb h).swap
theorem iI.finA(m:iI lt a b out na nb)(sa:k_ lt a)(sb:k_ lt b)(h: ∀x∈a.take na, ∀y∈b.take nb,lt x y=true):(a.take na ++ b.take nb ++ out).Perm (a ++ b)/\k_ lt (a.take na ++ b.take nb ++ out):=by
 constructor
 ·have e1:(a ++ b).Perm ((a.take na ++ a.drop na) ++ (b.take nb ++ b.drop nb)):=by rw [aU,aU]
  refine j_ ?_ e1.symm
  refine(m.perm.append_left _).trans ?_
  rw [aM,aM]
  refine dQ _ ?_
  rw [<-aM, <-aM]
  exact cF.append_right _
 ·refine bO.mpr ⟨bO.mpr ⟨cU (lL na a) sa,cU (lL nb b) sb,h⟩,m.mQ,fun x hx y hy=>m.hi x (bE.mp hx) y hy⟩
theorem iI.finB(m:iI lt a b out na nb)(sa:k_ lt a)(sb:k_ lt b)(h: ∀x∈b.take nb, ∀y∈a.take na,lt x y=true):(b.take nb ++ a.take na ++ out).Perm (a ++ b)/\k_ lt (b.take nb ++ a.take na ++ out):=
 let⟨p,q⟩:=m.swap.finA sb sa h; ⟨p.trans cF,q⟩
end
section
variable {prog:aq}{w:World}{A:bh}{E:Value->ah->Prop}{s:ah}{κ:jL}{S:Kd->Prop}{lt:Kd->Kd->Bool}{st:bZ}
theorem rp(a:Array Kd)(n:Nat):(a.extract 0 n).toList=a.toList.take n:=by
 rw [jJ,lG,Ab,kU]
theorem wx(a:Array Kd)(i n:Nat):(a.extract i n).toList=(a.toList.take n).drop i:=by
 rw [jJ,lG,List.drop_take]
theorem jl{a:Array Kd}{i:Nat}{y:Kd}(h:y∈a.toList.take i): ∃j,j < i/\ ∃hj:j < a.size,y=a[j]:=by
 obtain⟨k,hk,e⟩:=aN.mp h
 rw [a8,aj]at hk
 refine⟨k,by omega,by omega, ?_⟩
 rw [<-e,fA]
 simp
theorem mem_mid{a:Array Kd}{i n:Nat}{y:Kd}(h:y∈(a.toList.take n).drop i): ∃j,i<=j/\j < n/\ ∃hj:j < a.size,y=a[j]:=by
 obtain⟨m,hm,e⟩:=aN.mp h
 rw [bw,a8,aj]at hm
 refine⟨i+m,by omega,by omega,by omega, ?_⟩
 rw [<-e,dE,fA]
 simp
section
variable {a b out:Array Kd}{na nb:Nat}
theorem q8{i:Nat}(h:i < a.size):(a.toList.take (i+1)).drop i= [a[i]]:=by
 rw [eD,Gj a h,ug (by rw [a8,aj]; omega)]
 rw [eM (by rw [a8,aj]; omega)]
 rfl
theorem C5(o:mH S lt)(t:nY S lt a b){i n:Nat}{y z:Kd}(hi:i < a.size)(hn:n<=i+1)(hy:y∈a.toList.take n)(h:lt a[i] z=true):lt y z=true:=by
 obtain⟨j,j1,hj,rfl⟩:=jl hy
 by_cases e:j=i
 ·subst e; exact h
 ·exact o.tr _ _ _ (t.upA (show j < i by omega) hi) h
theorem DC(o:mH S lt)(t:nY S lt a b){i n:Nat}{y z:Kd}(hi:i < b.size)(hn:n<=i+1)(hy:y∈b.toList.take n)(h:lt b[i] z=true):lt y z=true:=by
 obtain⟨j,j1,hj,rfl⟩:=jl hy
 by_cases e:j=i
 ·subst e; exact h
 ·exact o.tr _ _ _ (t.upB (show j < i by omega) hi) h
theorem nY.done0(t:nY S lt a b)(m:iI lt a.toList b.toList out.toList.reverse na nb)(h:na=0\/nb=0):Res lt a b (a.extract 0 na ++ b.extract 0 nb ++ out.reverse):=by
 have:=m.finA t.sa t.sb fun x hx y hy=>by
  obtain⟨j,h1,h2,_⟩:=jl hx
  obtain⟨j',h1',h2',_⟩:=jl hy
  omega
 unfold Res
 rw [cm,cm,rp,rp,o5]
 exact this
theorem nY.fstB(t:nY S lt a b)(m:iI lt a.toList b.toList out.toList.reverse na nb)(h:nb=1):Res lt a b (b.extract 0 nb ++ a.extract 0 na ++ out.reverse):=by
 have:=m.finB t.sa t.sb fun x hx y hy=>by
  obtain⟨j,h1,h2,rfl⟩:=jl hx
  obtain⟨j',h1',h2',rfl⟩:=jl hy
  have e:j=0:=by omega
  subst e
  exact t.fst a[j'] (by simp)
 unfold Res
 rw [cm,cm,rp,rp,o5]
 exact this
theorem nY.preB1(t:nY S lt a b)(m:iI lt a.toList b.toList out.toList.reverse na (nb+1))(hb:nb < b.size)(h: ∀y∈a.toList.take na,lt y b[nb]=true):iI lt a.toList b.toList (out.push b[nb]).toList.reverse na nb:=by
 have:=m.preB (k:=nb) (by omega) t.sb fun x hx y hy=>by
  rw [q8 hb]at hx
  rcases aJ.mp hx with rfl
  exact h y hy
 rw [q8 hb]at this
 rw [je,pT]
 exact this
theorem nY.preA1(t:nY S lt a b)(m:iI lt a.toList b.toList out.toList.reverse (na+1) nb)(ha:na < a.size)(h: ∀y∈b.toList.take nb,lt y a[na]=true):iI lt a.toList b.toList (out.push a[na]).toList.reverse na nb:=by
 have:=m.preA (k:=na) (by omega) t.sa fun x hx y hy=>by
  rw [q8 ha]at hx
  rcases aJ.mp hx with rfl
  exact h y hy
 rw [q8 ha]at this
 rw [je,pT]
 exact this
end
def L5(lt:Kd->Kd->Bool)(a b:Array Kd)(n:Nat)(c:Option (Array Kd)×Nat×Nat×Array Kd×Nat×Nat×Nat):Prop:=
 ∃na nb out mg ac bc,c=(none,na+1,nb+2,out,mg,ac,bc)/\iI lt a.toList b.toList out.toList.reverse (na+1) (nb+2)/\na+nb<=n
def M3(lt:Kd->Kd->Bool)(a b:Array Kd)(n:Nat)(c:Option (Array Kd)×Nat×Nat×Array Kd×Nat×Nat×Nat):Prop:=
 (∃r rest,c=(some r,rest)/\Res lt a b r)\/L5 lt a b n c
def Mf(lt:Kd->Kd->Bool)(a b:Array Kd)(n:Nat)(L:Prop):ForInStep (Option (Array Kd)×Nat×Nat×Array Kd×Nat×Nat×Nat)->Prop
 | .done c=>L/\M3 lt a b n c
 | .yield c=>L/\L5 lt a b n c
set_option maxHeartbeats 4000000 in
theorem xZ{a b:Array Kd}{Q:Array Kd->bZ->Prop}(o:mH S lt)(c:sD prog w A s κ S lt)(hk:kindOf st=κ)(t:nY S lt a b)
  (h: ∀(res:Array Kd) (st':bZ),gz st st'->Res lt a b res->Q res st'):wpS (model prog w) A E s (Ds a b) Q st:=by
 have na0:=t.na
 have nb0:=t.nb
 obtain⟨a1,ea⟩: ∃a1,a.size=a1+1:=⟨a.size - 1,by omega⟩
 obtain⟨b1,eb⟩: ∃b1,b.size=b1+1:=⟨b.size - 1,by omega⟩
 have hla:a1 < a.size:=by omega
 have m0:iI lt a.toList b.toList (#[a[a1]]:Array Kd).toList.reverse a1 (b1+1):=by
  have:iI lt a.toList b.toList [] (a1+1) (b1+1):=⟨by rw [aj]; omega,by rw [aj]; omega,by rw [eM (by rw [aj]; omega),eM (by rw [aj]; omega)]; exact dD _,fw,fun x hx y hy=>by cases hy⟩
  refine nY.preA1 (out:= #[]) t this hla fun y hy=> ?_
  have:=t.lst y (gV hy)
  have e:a.size - 1=a1:=by omega
  simpa [e]using this
 refine aB (qV (e7 ⟨rfl, ?_⟩))
 have e0:a[a.size - 1]? =some a[a1]:=by rw [show a.size - 1=a1 by omega]; exact at_ a hla
 refine aB (cK e0 ?_)
 have ea':a.size - 1=a1:=by omega
 rw [ea',eb]
 refine bX (fun e=> ?_) fun e1=> ?_
 ·have e:(a1==0)=true:=e
  exact aI (h _ _ (.refl _) (t.done0 m0 (.inl (beq_iff_eq.mp e))))
 have e1: ¬a1=0:=fun z=>e1 (beq_iff_eq.mpr z)
 refine bX (fun e=> ?_) fun e2=> ?_
 ·have e:(b1+1==1)=true:=e
  exact aI (h _ _ (.refl _) (t.fstB m0 (beq_iff_eq.mp e)))
 have e2: ¬b1+1=1:=fun z=>e2 (beq_iff_eq.mpr z)
 refine aB (mW ?_)
 refine aB (eJ (c9 (I:=fun x c st'=>gz st st'/\ ∃na nb out mg,c=(none,na+1,nb+2,out,mg)/\iI lt a.toList b.toList out.toList.reverse (na+1) (nb+2)/\x+na+nb+4<=a.size+(b1+1))
   (Q:=fun c st'=> ∃r rest,c=(some r,rest)/\gz st st'/\Res lt a b r) ?_ ?_ ⟨.refl _,a1 - 1,b1 - 1,_,_,by rw [show a1 - 1+1=a1 by omega,show b1 - 1+2=b1+1 by omega],by rw [show a1 - 1+1=a1 by omega,show b1 - 1+2=b1+1 by omega]; exact m0,by omega⟩) ?_)
 ·rintro x c st1 _ hx ⟨L1,na,nb,out,mg,rfl,m,hp1⟩
  have k1:kindOf st1=κ:=L1.1.trans hk
  refine aB (eJ (c9 (I:=fun y c st'=>st'=st1/\ ∃na' nb' out' ac bc,c=(none,na'+1,nb'+2,out',ac,bc)/\iI lt a.toList b.toList out'.toList.reverse (na'+1) (nb'+2)/\y+(na'+nb')<=na+nb)
   (Q:=fun c st'=>st'=st1/\((∃r rest,c=(some r,rest)/\Res lt a b r)\/ ∃na' nb' out' ac bc,c=(none,na'+1,nb'+2,out',ac,bc)/\iI lt a.toList b.toList out'.toList.reverse (na'+1) (nb'+2)/\na'+nb'+1<=na+nb)) ?_ ?_ ⟨rfl,na,nb,out,_,_,rfl,m,by omega⟩) ?_)
  ·rintro y c st' _ hy ⟨rfl,na',nb',out',ac,bc,rfl,m',hp'⟩
   have ha0:na' < a.size:=by have:=m'.ha; rw [aj]at this; omega
   have hb0:nb'+1 < b.size:=by have:=m'.hb; rw [aj]at this; omega
   refine aB (cK (at_ b hb0) ?_)
   refine aB (cK (at_ a ha0) ?_)
   refine aB (sJ c k1 (t.gb hb0) (t.ga ha0) ?_)
   cases eq:lt b[nb'+1] a[na']with
   | true=>
    have m2:=t.preA1 m' ha0 fun y hy=>DC o t hb0 (by omega) hy eq
    refine aB (cK (at_ a ha0) ?_)
    refine bX (fun e=> ?_) fun e=> ?_
    ·have e:(na'==0)=true:=e
     exact aI ⟨rfl, .inl ⟨_,_,rfl,t.done0 (na:=na') (nb:=nb'+2) m2 (.inl (beq_iff_eq.mp e))⟩⟩
    ·have e: ¬na'=0:=fun z=>e (beq_iff_eq.mpr z)
     obtain⟨n2,rfl⟩: ∃n2,na'=n2+1:=⟨na' - 1,by omega⟩
     refine bX (fun e3=>aI ?_) fun e3=>aI ?_
     ·exact⟨rfl, .inr ⟨n2,nb',_,_,_,rfl,m2,by omega⟩⟩
     ·exact⟨rfl,n2,nb',_,_,_,rfl,m2,by omega⟩
   | false=>
    have eq2:=o.tot _ _ (t.gb hb0) (t.ga ha0) (fun z=>t.nab ha0 hb0 z.symm) eq
    have m2:=t.preB1 (nb:=nb'+1) m' hb0 fun y hy=>C5 o t ha0 (by omega) hy eq2
    refine aB (cK (at_ b hb0) ?_)
    refine bX (fun e=> ?_) fun e=> ?_
    ·have e:(nb'+1==1)=true:=e
     exact aI ⟨rfl, .inl ⟨_,_,rfl,t.fstB (na:=na'+1) (nb:=nb'+1) m2 (beq_iff_eq.mp e)⟩⟩
    ·have e: ¬nb'+1=1:=fun z=>e (beq_iff_eq.mpr z)
     obtain⟨n2,rfl⟩: ∃n2,nb'=n2+1:=⟨nb' - 1,by omega⟩
     refine bX (fun e3=>aI ?_) fun e3=>aI ?_
     ·exact⟨rfl, .inr ⟨na',n2,_,_,_,rfl,m2,by omega⟩⟩
     ·exact⟨rfl,na',n2,_,_,_,rfl,m2,by omega⟩
  ·rintro c st' ⟨rfl,na',nb',out',ac,bc,rfl,m',hp'⟩
   exact⟨rfl, .inr ⟨na',nb',_,_,_,rfl,m',by omega⟩⟩
  ·rintro c st' ⟨rfl,⟨r,rest,rfl,hr⟩ | ⟨na1,nb1,out1,ac1,bc1,rfl,m1,hp2⟩⟩
   ·exact aI ⟨_,_,rfl,L1,hr⟩
   ·refine aB (qV (e7 ⟨rfl, ?_⟩))
    refine aB (eJ (c9 (I:=fun y c st'=>gz st st'/\L5 lt a b (na1+nb1) c)
     (Q:=fun c st'=>gz st st'/\M3 lt a b (na1+nb1) c) ?_ ?_ ⟨L1,na1,nb1,_,_,_,_,rfl,m1,ay _⟩) ?_)
    ·rintro y c st' _ hy ⟨L',na',nb',out',mg',ac,bc,rfl,m',hp'⟩
     have ha0:na' < a.size:=by have:=m'.ha; rw [aj]at this; omega
     have hb0:nb'+1 < b.size:=by have:=m'.hb; rw [aj]at this; omega
     extract_lets v1 v2 v3 v4 v5 v6 v7 v8 v9 v10 v11 v12 jp v14
     have q2:na'+1=v2:=rfl
     have q4:nb'+2=v4:=rfl
     have q6:out'=v6:=rfl
     have q11:bc=v11:=rfl
     have q12:nb'+1=v12:=rfl
     clear_value v2 v4 v6 v11 v12
     subst q2 q4 q6 q11 q12
     have J: ∀g,wpS (model prog w) A E s (jp () g) (fun r st2=>Mf lt a b (na1+nb1) (gz st st2) r) st':=fun g=>by
      refine aB (lY fun st3 L3=> ?_)
      have L3:=L'.trans L3
      have k3:kindOf st3=κ:=L3.1.trans hk
      refine aB (cK (at_ b hb0) ?_)
      refine aB (i4 (g:=fun i=>a.getD i b[nb'+1]) o c k3 (fun i hi=> ?_) (fun i hi=> ?_) (fun i hi=> ?_) (t.gb hb0) (fun i j hij hj=> ?_) (by omega) fun k hk0 g1 g2=> ?_)
      ·have:i < a.size:=by omega
       simp [this]
      ·have:i < a.size:=by omega
       simpa [this]using t.ga this
      ·have:i < a.size:=by omega
       simpa [this]using t.nab this hb0
      ·have h1:i < a.size:=by omega
       have h2:j < a.size:=by omega
       simpa [h1,h2]using t.upA hij h2
      have m3:iI lt a.toList b.toList (out' ++ (a.extract k (na'+1)).reverse).toList.reverse k (nb'+2):=by
       rw [cm,o5,pT,List.reverse_reverse,wx]
       refine m'.preA hk0 t.sa fun x hx y hy=> ?_
       obtain⟨j,j1,j2,hj,rfl⟩:=mem_mid hx
       have z:=g2 j j1 j2
       have z:lt a[j] b[nb'+1]=false:=by simpa [hj]using z
       exact DC o t hb0 (by omega) hy (o.tot _ _ (t.ga hj) (t.gb hb0) (t.nab hj hb0) z)
      have u3: ∀y∈a.toList.take k,lt y b[nb'+1]=true:=fun y hy=>by
       obtain⟨j,j1,hj,rfl⟩:=jl hy
       have z:=g1 j j1
       simpa [hj]using z
      dsimp -zeta only
      extract_lets kk ac2 jp2 out2
      have J2: ∀(na3:Nat) (out3:Array Kd),iI lt a.toList b.toList out3.toList.reverse na3 (nb'+2)->1<=na3->na3<=na'+1->(∀y∈a.toList.take na3,lt y b[nb'+1]=true)->wpS (model prog w) A E s (jp2 () na3 out3) (fun r st2=>Mf lt a b (na1+nb1) (gz st st2) r) st3:=fun na3 out3 m3 h3 l3 u3=>by
       have m4:=t.preB1 (nb:=nb'+1) m3 hb0 u3
       obtain⟨p,rfl⟩: ∃p,na3=p+1:=⟨na3 - 1,by omega⟩
       have ha3:p < a.size:=by omega
       refine aB (cK (at_ b hb0) ?_)
       refine bX (fun e=> ?_) fun e=> ?_
       ·have e:(nb'+1==1)=true:=e
        exact aI ⟨L3, .inl ⟨_,_,rfl,t.fstB (na:=p+1) (nb:=nb'+1) m4 (beq_iff_eq.mp e)⟩⟩
       have e: ¬nb'+1=1:=fun z=>e (beq_iff_eq.mpr z)
       refine aB (cK (at_ a ha3) ?_)
       refine aB (i4 (g:=fun i=>b.getD i a[p]) o c k3 (fun i hi=> ?_) (fun i hi=> ?_) (fun i hi=> ?_) (t.ga ha3) (fun i j hij hj=> ?_) (by omega) fun k2 hk2 r1 r2=> ?_)
       ·have:i < b.size:=by omega
        simp [this]
       ·have:i < b.size:=by omega
        simpa [this]using t.gb this
       ·have:i < b.size:=by omega
        simpa [this]using fun z=>t.nab ha3 this (Eq.symm z)
       ·have h1:i < b.size:=by omega
        have h2:j < b.size:=by omega
        simpa [h1,h2]using t.upB hij h2
       have m5:iI lt a.toList b.toList (out3.push b[nb'+1] ++ (b.extract k2 (nb'+1)).reverse).toList.reverse (p+1) k2:=by
        rw [cm,o5,pT,List.reverse_reverse,wx]
        refine m4.preB hk2 t.sb fun x hx y hy=> ?_
        obtain⟨j,j1,j2,hj,rfl⟩:=mem_mid hx
        have z:=r2 j j1 j2
        have z:lt b[j] a[p]=false:=by simpa [hj]using z
        exact C5 o t ha3 (by omega) hy (o.tot _ _ (t.gb hj) (t.ga ha3) (fun z=>t.nab ha3 hj z.symm) z)
       have u5: ∀y∈b.toList.take k2,lt y a[p]=true:=fun y hy=>by
        obtain⟨j,j1,hj,rfl⟩:=jl hy
        have z:=r1 j j1
        simpa [hj]using z
       dsimp -zeta only
       extract_lets kk2 bc2 na6 jp3 out4
       have J3: ∀(nb5:Nat) (out5:Array Kd),iI lt a.toList b.toList out5.toList.reverse (p+1) nb5->2<=nb5->nb5<=nb'+1->(∀y∈b.toList.take nb5,lt y a[p]=true)->wpS (model prog w) A E s (jp3 () nb5 out5) (fun r st2=>Mf lt a b (na1+nb1) (gz st st2) r) st3:=fun nb5 out5 m5 h5 l5 u5=>by
        have m6:=t.preA1 m5 ha3 u5
        obtain⟨q,rfl⟩: ∃q,nb5=q+2:=⟨nb5 - 2,by omega⟩
        refine aB (cK (at_ a ha3) ?_)
        refine bX (fun e=> ?_) fun e=> ?_
        ·have e:(p==0)=true:=e
         exact aI ⟨L3, .inl ⟨_,_,rfl,t.done0 (na:=p) (nb:=q+2) m6 (.inl (beq_iff_eq.mp e))⟩⟩
        ·have e: ¬p=0:=fun z=>e (beq_iff_eq.mpr z)
         obtain⟨p2,rfl⟩: ∃p2,p=p2+1:=⟨p - 1,by omega⟩
         refine bX (fun _=>aI ?_) fun _=>aI ?_
         ·exact⟨L3, .inr ⟨p2,q,_,_,_,_,rfl,m6,by omega⟩⟩
         ·exact⟨L3,p2,q,_,_,_,_,rfl,m6,by omega⟩
       refine bX (fun e2=> ?_) fun e2=> ?_
       ·refine bX (fun e3=> ?_) fun e3=> ?_
        ·have e3:(k2==1)=true:=e3
         exact aI ⟨L3, .inl ⟨_,_,rfl,t.fstB (na:=p+1) (nb:=k2) m5 (beq_iff_eq.mp e3)⟩⟩
        ·have e3: ¬k2=1:=fun z=>e3 (beq_iff_eq.mpr z)
         refine bX (fun e4=> ?_) fun e4=> ?_
         ·have e4:(k2==0)=true:=e4
          exact aI ⟨L3, .inl ⟨_,_,rfl,t.done0 (na:=p+1) (nb:=k2) m5 (.inr (beq_iff_eq.mp e4))⟩⟩
         ·have e4: ¬k2=0:=fun z=>e4 (beq_iff_eq.mpr z)
          exact J3 _ _ m5 (by omega) (by omega) u5
       ·have e2: ¬nb'+1 - k2 > 0:=e2
        have z:k2=nb'+1:=by omega
        subst z
        exact J3 _ _ m4 (by omega) (by omega) u5
      refine bX (fun e2=> ?_) fun e2=> ?_
      ·refine bX (fun e3=> ?_) fun e3=> ?_
       ·have e3:(k==0)=true:=e3
        exact aI ⟨L3, .inl ⟨_,_,rfl,t.done0 (na:=k) (nb:=nb'+2) m3 (.inl (beq_iff_eq.mp e3))⟩⟩
       ·have e3: ¬k=0:=fun z=>e3 (beq_iff_eq.mpr z)
        exact J2 _ _ m3 (by omega) (by omega) u3
      ·have e2: ¬na'+1 - k > 0:=e2
       have z:k=na'+1:=by omega
       subst z
       exact J2 _ _ m' (by omega) (by omega) u3
     exact bX (fun _=>eJ (J _) fun r st2 z=>by cases r <;> exact z) fun _=>eJ (J _) fun r st2 z=>by cases r <;> exact z
    ·rintro c st' ⟨L',na',nb',out',mg',ac,bc,rfl,m',hp'⟩
     exact⟨L', .inr ⟨na',nb',_,_,_,_,rfl,m',hp'⟩⟩
    ·rintro c st' ⟨L',⟨r,rest,rfl,hr⟩ | ⟨na',nb',out',mg',ac,bc,rfl,m',hp'⟩⟩
     ·exact aI ⟨_,_,rfl,L',hr⟩
     ·refine aB (lY fun st3 L3=>aI ?_)
      exact⟨L'.trans L3,na',nb',_,_,rfl,m',by omega⟩
 ·rintro c st' ⟨L',na,nb,out,mg,rfl,m,hp1⟩
  omega
 ·rintro c st' ⟨r,rest,rfl,L',hr⟩
  exact aI (h r st' L' hr)
end
theorem za{pre x rest:List Kd}{arr:Array Kd}(e:arr.toList=pre ++ (x ++ rest)){i:Nat}(h:i < x.length):arr[pre.length+i]? =some x[i]:=by
 rw [<-bp,e,eZ (by omega),iZ,fj h,ai h]
theorem AA: ∀(l:List Kd) (arr:Array Kd) (sa n:Nat),sa+n+l.length<=arr.size->
  ((l.zipIdx n).foldl (fun a (x:Kd×Nat)=>match x with | (p,j)=>a.setIfInBounds (sa+j) p) arr).toList=arr.toList.take (sa+n) ++ l ++ arr.toList.drop (sa+n+l.length)
 | [],arr,sa,n,h=>by simp
 | x::l,arr,sa,n,h=>by
  rw [aH]at h
  rw [Ig,IQ]
  dsimp only
  have hs:(arr.setIfInBounds (sa+n) x).size=arr.size:=Array.size_setIfInBounds
  rw [AA l _ sa (n+1) (by rw [hs]; omega),Array.toList_setIfInBounds]
  have hl:sa+n < arr.toList.length:=by rw [aj]; omega
  have e1:(arr.toList.set (sa+n) x).take (sa+(n+1))=arr.toList.take (sa+n) ++ [x]:=by
   rw [<-mi,eD,List.take_set_of_le (ay _),z5 hl]
   rfl
  have e2:(arr.toList.set (sa+n) x).drop (sa+(n+1)+l.length)=arr.toList.drop (sa+n+(l.length+1)):=by
   rw [List.drop_set_of_lt (by omega)]
   congr 1
   omega
  rw [e1,e2,aH]
  simp
section
variable {prog:aq}{w:World}{A:bh}{E:Value->ah->Prop}{s:ah}{κ:jL}{S:Kd->Prop}{lt:Kd->Kd->Bool}{st:bZ}
theorem Eb(o:mH S lt){x1 x2 y1 y2 m:List Kd}(sx:k_ lt (x1 ++ x2))(sy:k_ lt (y1 ++ y2))(sm:k_ lt m)(pm:m.Perm (x2 ++ y1))(h1: ∀u∈x1, ∀v∈y1 ++ y2,lt u v=true)(h2: ∀u∈x2, ∀v∈y2,lt u v=true):k_ lt (x1 ++ m ++ y2):=by
 have a:=bO.mp sx
 have b:=bO.mp sy
 refine bO.mpr ⟨bO.mpr ⟨a.1,sm,fun u hu v hv=> ?_⟩,b.2.1,fun u hu v hv=> ?_⟩
 ·rcases bE.mp (pm.mem_iff.mp hv)with hv | hv
  ·exact a.2.2 u hu v hv
  ·exact h1 u hu v (dg _ hv)
 ·rcases bE.mp hu with hu | hu
  ·exact h1 u hu v (aT _ hv)
  ·rcases bE.mp (pm.mem_iff.mp hu)with hu | hu
   ·exact h2 u hu v hv
   ·exact b.2.2 u hu v hv
theorem vR{x:List Kd}(h:k_ lt x){i j:Nat}(hij:i < j)(hj:j < x.length):lt (x[i]'(by omega)) x[j]=true:=b8.mp h i j (by omega) hj hij
set_option maxHeartbeats 4000000 in
theorem yl{i pw pw2:Nat}{pre x y post:List Kd}{Q:Bool->bZ->Prop}(o:mH S lt)(c:sD prog w A s κ S lt)(hk:kindOf st=κ)(hf:gY st=none)
  (hi:(b_ st)[i]? =some (pre.length,x.length,pw))(hi1:(b_ st)[i+1]? =some (pre.length+x.length,y.length,pw2))
  (e:(arrOf st).toList=pre ++ (x ++ (y ++ post)))(hx0:0 < x.length)(hy0:0 < y.length)(sx:k_ lt x)(sy:k_ lt y)(Sx: ∀u∈x,S u)(Sy: ∀u∈y,S u)(ne: ∀u∈x, ∀v∈y,u≠v)
  (h: ∀(z:List Kd) (st':bZ),kindOf st'=κ->gY st'=none->b_ st'=((b_ st).setIfInBounds i (pre.length,x.length+y.length,pw)).eraseIdxIfInBounds (i+1)->(arrOf st').toList=pre ++ (z ++ post)->z.Perm (x ++ y)->k_ lt z->Q true st'):
  wpS (model prog w) A E s (mergeAt' i) Q st:=by
 refine aB (mW ?_)
 rw [hi,hi1]
 refine aB (mX (f:=fun _=>_) ?_)
 have hsb:(arrOf st)[pre.length+x.length]? =some y[0]:=by
  have:=za (pre:=pre ++ x) (x:=y) (rest:=post) (arr:=arrOf st) (by rw [e]; simp) (i:=0) hy0
  simpa using this
 have hxl: ∀k (hk:k < x.length),(arrOf st)[pre.length+k]? =some x[k]:=fun k hk=>za e hk
 have hyl: ∀k (hk:k < y.length),(arrOf st)[pre.length+x.length+k]? =some y[k]:=fun k hk=>by
  have:=za (pre:=pre ++ x) (x:=y) (rest:=post) (arr:=arrOf st) (by rw [e]; simp) hk
  rw [ao]at this
  exact this
 have Sy0:S y[0]:=Sy _ (aR _)
 refine aB (cK hsb ?_)
 refine aB (i4 (g:=fun k=>x.getD k y[0]) o c hk (fun k hk=> ?_) (fun k hk=> ?_) (fun k hk=> ?_) Sy0 (fun k j hij hj=> ?_) hx0 fun k hk0 g1 g2=> ?_)
 ·rw [hxl k hk]; simp [hk]
 ·simpa [hk]using Sx _ (aR hk)
 ·simpa [hk]using ne _ (aR hk) _ (aR hy0)
 ·have h1:k < x.length:=by omega
  simpa [h1,hj]using vR sx hij hj
 have g1': ∀u∈x.take k,lt u y[0]=true:=fun u hu=>by
  obtain⟨j,hj,rfl⟩:=aN.mp hu
  rw [a8]at hj
  rw [fA]
  have h1:j < x.length:=by omega
  simpa [h1]using g1 j (by omega)
 have g2': ∀u∈x.drop k,lt y[0] u=true:=fun u hu=>by
  obtain⟨j,hj,rfl⟩:=aN.mp hu
  rw [bw]at hj
  rw [dE]
  have h1:k+j < x.length:=by omega
  have z:lt x[k+j] y[0]=false:=by simpa [h1]using g2 (k+j) (by omega) h1
  exact o.tot _ _ (Sx _ (aR h1)) Sy0 (ne _ (aR h1) _ (aR hy0)) z
 have y0le: ∀u,lt u y[0]=true-> ∀v∈y,lt u v=true:=fun u hu v hv=>by
  obtain⟨j,hj,rfl⟩:=aN.mp hv
  by_cases hz:j=0
  ·subst hz; exact hu
  ·exact o.tr _ _ _ hu (vR sy (by omega) hj)
 refine bX (fun e0=> ?_) fun e0=> ?_
 ·have e0:(x.length - k==0)=true:=e0
  have e0:=beq_iff_eq.mp e0
  refine aI (h (x ++ y) _ hk hf rfl (by rw [aM]; exact e) (dD _) (bO.mpr ⟨sx,sy,fun u hu v hv=>y0le u (g1' u ?_) v hv⟩))
  rw [dB (by omega)]
  exact hu
 have e0: ¬x.length - k=0:=fun z=>e0 (beq_iff_eq.mpr z)
 have hl:x.length - 1 < x.length:=by omega
 have hsl:(arrOf st)[pre.length+k+(x.length - k) - 1]? =some x[x.length - 1]:=by
  rw [show pre.length+k+(x.length - k) - 1=pre.length+(x.length - 1) by omega]
  exact hxl _ hl
 have Sxl:S x[x.length - 1]:=Sx _ (aR _)
 refine aB (cK hsl ?_)
 refine aB (i4 (g:=fun k=>y.getD k x[x.length - 1]) o c hk (fun k hk=> ?_) (fun k hk=> ?_) (fun k hk=> ?_) Sxl (fun k j hij hj=> ?_) (show y.length - 1 < y.length by omega) fun n2 hn2 r1 r2=> ?_)
 ·rw [hyl k hk]; simp [hk]
 ·simpa [hk]using Sy _ (aR hk)
 ·simpa [hk]using fun z=>ne _ (aR hl) _ (aR hk) (Eq.symm z)
 ·have h1:k < y.length:=by omega
  simpa [h1,hj]using vR sy hij hj
 have r1': ∀u∈y.take n2,lt u x[x.length - 1]=true:=fun u hu=>by
  obtain⟨j,hj,rfl⟩:=aN.mp hu
  rw [a8]at hj
  rw [fA]
  have h1:j < y.length:=by omega
  simpa [h1]using r1 j (by omega)
 have r2': ∀u∈y.drop n2,lt x[x.length - 1] u=true:=fun u hu=>by
  obtain⟨j,hj,rfl⟩:=aN.mp hu
  rw [bw]at hj
  rw [dE]
  have h1:n2+j < y.length:=by omega
  have z:lt y[n2+j] x[x.length - 1]=false:=by simpa [h1]using r2 (n2+j) (by omega) h1
  exact o.tot _ _ (Sy _ (aR h1)) Sxl (fun z=>ne _ (aR hl) _ (aR h1) z.symm) z
 have xlge: ∀v,lt x[x.length - 1] v=true-> ∀u∈x,lt u v=true:=fun v hv u hu=>by
  obtain⟨j,hj,rfl⟩:=aN.mp hu
  by_cases hz:j=x.length - 1
  ·subst hz; exact hv
  ·exact o.tr _ _ _ (vR sx (show j < x.length - 1 by omega) hl) hv
 refine bX (fun e1=> ?_) fun e1=> ?_
 ·have e1:(n2==0)=true:=e1
  have e1:=beq_iff_eq.mp e1
  subst e1
  exact aI (h (x ++ y) _ hk hf rfl (by rw [aM]; exact e) (dD _) (bO.mpr ⟨sx,sy,fun u hu v hv=>xlge v (r2' v hv) u hu⟩))
 have e1: ¬n2=0:=fun z=>e1 (beq_iff_eq.mpr z)
 have ex:((arrOf st).extract (pre.length+k) (pre.length+x.length)).toList=x.drop k:=by
  rw [wx,e]
  have:(pre ++ (x ++ (y ++ post))).take (pre.length+x.length)=pre ++ x:=by
   rw [<-aM,jM (by rw [ao]; omega),dB (by rw [ao]; omega)]
  rw [this,uc,eM (by omega)]
  simp
 have ey:((arrOf st).extract (pre.length+x.length) (pre.length+x.length+n2)).toList=y.take n2:=by
  rw [wm,e]
  have:(pre ++ (x ++ (y ++ post))).drop (pre.length+x.length)=y ++ post:=by
   rw [<-aM,uc,eM (by rw [ao]; omega),ao,kj]
   rfl
  rw [this,jM hn2]
 generalize hX:(arrOf st).extract (pre.length+k) (pre.length+x.length)=X at ex
 generalize hY:(arrOf st).extract (pre.length+x.length) (pre.length+x.length+n2)=Y at ey
 have szX:X.size=x.length - k:=by rw [<-aj,ex,bw]
 have szY:Y.size=n2:=by rw [<-aj,ey,a8]; omega
 have t:nY S lt X Y:=by
  refine⟨by rw [ex]; exact cU (lN _ _) sx,by rw [ey]; exact cU (lL _ _) sy,fun u hu=> ?_,fun u hu=> ?_,fun u hu v hv=> ?_,by omega,by omega,fun u hu=> ?_,fun u hu=> ?_⟩
  ·rw [ex]at hu; exact Sx u (jK hu)
  ·rw [ey]at hu; exact Sy u (gV hu)
  ·rw [ex]at hu
   rw [ey]at hv
   exact ne u (jK hu) v (gV hv)
  ·rw [ex]at hu
   have:Y[0]'(by omega)=y[0]:=by
    have q:Y.toList[0]'(by rw [aj]; omega)=(y.take n2)[0]'(by rw [a8]; omega):=by simp only [ey]
    rw [fA]at q
    simpa using q
   rw [this]
   exact g2' u hu
  ·rw [ey]at hu
   have:X[X.size - 1]'(by omega)=x[x.length - 1]:=by
    have q:X.toList[X.size - 1]'(by rw [aj]; omega)=(x.drop k)[X.size - 1]'(by rw [bw]; omega):=by simp only [ex]
    rw [dE]at q
    have e3:k+(X.size - 1)=x.length - 1:=by omega
    simp only [e3]at q
    simpa using q
   rw [this]
   exact r1' u hu
 have fin: ∀(res:Array Kd) (st2:bZ),gz (setPending st (((b_ st).setIfInBounds i (pre.length,x.length+y.length,pw)).eraseIdxIfInBounds (i+1))) st2->Res lt X Y res->
   wpS (model prog w) A E s (do
    modify fun s=>setArr s (res.toList.zipIdx.foldl (fun a (x:Kd×Nat)=>match x with | (p,j)=>a.setIfInBounds (pre.length+k+j) p) (arrOf s))
    let s<-get
    pure (gY s).isNone) Q st2:=fun res st2 L2 hr=>by
  refine aB (mX ?_)
  refine aB (mW ?_)
  have f2:gY st2=none:=L2.2.2.2.trans hf
  have a2:arrOf st2=arrOf st:=L2.2.1
  have hr1:res.toList.Perm (x.drop k ++ y.take n2):=by have:=hr.1; rw [ex,ey]at this; exact this
  have lr:res.toList.length=(x.length - k)+n2:=by rw [hr1.length_eq,ao,bw,a8]; omega
  have tot:pre.length+(x.length+(y.length+post.length))=(arrOf st).size:=by rw [<-aj,e]; simp [ao]
  have put:=AA res.toList (arrOf st) (pre.length+k) 0 (by omega)
  show wpS (model prog w) A E s (pure (gY st2).isNone) Q _
  rw [f2]
  refine aI (h (x.take k ++ res.toList ++ y.drop n2) _ (L2.1.trans hk) f2 L2.2.2.1 ?_ ?_ ?_)
  ·show(res.toList.zipIdx.foldl _ (arrOf st2)).toList=_
   rw [a2]
   refine put.trans ?_
   rw [e,lr]
   have p1:(pre ++ (x ++ (y ++ post))).take (pre.length+k+0)=pre ++ x.take k:=by
    rw [Nat.add_zero,List.take_append,dB (by omega),iZ,jM hk0]
   have p2:(pre ++ (x ++ (y ++ post))).drop (pre.length+k+0+(x.length - k+n2))=y.drop n2 ++ post:=by
    rw [show pre.length+k+0+(x.length - k+n2)=pre.length+(x.length+n2) by omega, <-List.drop_drop,uc,eM (ay _),kj,List.nil_append,kU, <-List.drop_drop,uc,eM (ay _),kj,List.nil_append,kU,ug hn2]
   rw [p1,p2]
   simp
  ·have:(x ++ y).Perm ((x.take k ++ x.drop k) ++ (y.take n2 ++ y.drop n2)):=by rw [aU,aU]
   refine j_ ?_ this.symm
   rw [aM,aM]
   refine dQ _ ?_
   rw [<-aM]
   exact hr1.append_right _
  ·refine Eb o (by rw [aU]; exact sx) (by rw [aU]; exact sy) hr.2 hr1 (fun u hu v hv=> ?_) fun u hu v hv=>xlge v (r2' v hv) u (jK hu)
   rw [aU]at hv
   exact y0le u (g1' u hu) v hv
 refine bX (fun _=> ?_) fun _=> ?_
 ·exact aB (yd o c hk t fun res st2 L2 hr=>fin res st2 L2 hr)
 ·exact aB (xZ o c hk t fun res st2 L2 hr=>fin res st2 L2 hr)
end
def At(arr:Array Kd)(i:Nat):Kd:=arr.getD i (aY,aY)
theorem nF{arr:Array Kd}{i:Nat}(h:i < arr.size):arr[i]? =some (At arr i):=by unfold At; simp [h]
theorem mq{xs ys:Array Kd}{i j:Nat}(h:xs[i]? =ys[j]?):At xs i=At ys j:=by
 unfold At
 rw [vk,vk,h]
def Up(lt:Kd->Kd->Bool)(arr:Array Kd)(lo n:Nat):Prop:= ∀i j,i < j->j < n->lt (At arr (lo+i)) (At arr (lo+j))=true
structure SB(κ:jL)(a0:List Kd)(p:Array (Nat×Nat×Nat))(pre:List Kd)(st:bZ):Prop where
 kind:kindOf st=κ
 failed:gY st=none
 perm:(arrOf st).toList.Perm a0
 pend:b_ st=p
 pre:(arrOf st).toList.take pre.length=pre
section
variable {prog:aq}{w:World}{A:bh}{E:Value->ah->Prop}{s:ah}{κ:jL}{S:Kd->Prop}{lt:Kd->Kd->Bool}{st:bZ}{a0 pre:List Kd}{p:Array (Nat×Nat×Nat)}
theorem SB.size(b:SB κ a0 p pre st):(arrOf st).size=a0.length:=by rw [<-aj,b.perm.length_eq]
theorem SB.ss(b:SB κ a0 p pre st)(hS: ∀x∈a0,S x){i:Nat}(h:i < a0.length):S (At (arrOf st) i):=by
 have hi:i < (arrOf st).size:=by rw [b.size]; exact h
 have:=nF hi
 refine hS _ (b.perm.mem_iff.mp ?_)
 rw [<-bp]at this
 exact aW this
theorem SB.ne(b:SB κ a0 p pre st)(nd:a0.Nodup){i j:Nat}(h:i < a0.length)(h':j < a0.length)(hij:i≠j):At (arrOf st) i≠At (arrOf st) j:=fun z=>by
 have nd':(arrOf st).toList.Nodup:=b.perm.symm.nodup nd
 have e1:(arrOf st).toList[i]? =some (At (arrOf st) i):=by rw [bp]; exact nF (by rw [b.size]; exact h)
 have e2:(arrOf st).toList[j]? =some (At (arrOf st) j):=by rw [bp]; exact nF (by rw [b.size]; exact h')
 obtain⟨h1,e1⟩:=aD.mp e1
 obtain⟨h2,e2⟩:=aD.mp e2
 exact hij ((mx nd').mp (by rw [e1,e2,z]))
theorem nu{i j:Nat}{Q:Option Bool->bZ->Prop}(c:sD prog w A s κ S lt)(b:SB κ a0 p pre st)(hS: ∀x∈a0,S x)(hi:i < a0.length)(hj:j < a0.length)(h:Q (some (lt (At (arrOf st) i) (At (arrOf st) j))) st):wpS (model prog w) A E s (ltAt' i j) Q st:=by
 rw [ltAt'_eq]
 refine aB (mW ?_)
 refine aB (cK (nF (by rw [b.size]; exact hi)) ?_)
 refine aB (cK (nF (by rw [b.size]; exact hj)) ?_)
 exact sJ c b.kind (b.ss hS hi) (b.ss hS hj) h
theorem SB.setArr(b:SB κ a0 p pre st){xs:Array Kd}(hp:xs.Perm (arrOf st))(hk: ∀i,i < pre.length->xs[i]? =(arrOf st)[i]?):SB κ a0 p pre (setArr st xs):=by
 refine⟨b.kind,b.failed,hp.toList.trans b.perm,b.pend, ?_⟩
 show xs.toList.take pre.length=pre
 have:=b.pre
 rw [<-this]
 apply fy
 intro i
 rw [qr,qr,this]
 split
 ·rename_i h; rw [bp,bp,hk i h]
 ·rfl
theorem yt{lo nrem n:Nat}{f:Nat->Option (Option Nat)×Nat->StateT bZ Sem (ForInStep (Option (Option Nat)×Nat))}{Q:Option (Option Nat)×Nat->bZ->Prop}(o:mH S lt)(nd:a0.Nodup)(hS: ∀x∈a0,S x)(b:SB κ a0 p pre st)(hn:lo+nrem<=a0.length)(h1:1<=n)(h2:n<=nrem)
  (hf: ∀x m (Q':ForInStep (Option (Option Nat)×Nat)->bZ->Prop),m < nrem->1<=m->(lt (At (arrOf st) (lo+m)) (At (arrOf st) (lo+m - 1))=true->Q' (.done (none,m)) st)->(lt (At (arrOf st) (lo+m)) (At (arrOf st) (lo+m - 1))=false->Q' (.yield (none,m+1)) st)->wpS (model prog w) A E s (f x (none,m)) Q' st)
  (u:Up lt (arrOf st) lo n)(h: ∀m,n<=m->m<=nrem->Up lt (arrOf st) lo m->(m=nrem\/lt (At (arrOf st) (lo+m)) (At (arrOf st) (lo+m - 1))=true)->Q (none,m) st):wpS (model prog w) A E s (forIn [n:nrem] (none,n) f) Q st:=by
 refine c9 (I:=fun x c st'=>st'=st/\c=(none,x)/\n<=x/\x<=nrem/\Up lt (arrOf st) lo x) ?_ ?_ ⟨rfl,rfl,ay _,h2,u⟩
 ·rintro x c st' hx1 hx2 ⟨rfl,rfl,h3,h4,u⟩
  refine hf x x _ hx2 (by omega) (fun e=>h x h3 h4 u (.inr e)) fun e=>⟨rfl,rfl,by omega,by omega,fun i j hij hj=> ?_⟩
  by_cases z:j < x
  ·exact u i j hij z
  ·have ej:j=x:=by omega
   subst ej
   have l:lt (At (arrOf st') (lo+j - 1)) (At (arrOf st') (lo+j))=true:=o.tot _ _ (b.ss hS (by omega)) (b.ss hS (by omega)) (b.ne nd (by omega) (by omega) (by omega)) e
   by_cases z2:i=j - 1
   ·subst z2
    rw [show lo+(j - 1)=lo+j - 1 by omega]
    exact l
   ·refine o.tr _ _ _ (u i (j - 1) (by omega) (by omega)) ?_
    rw [show lo+(j - 1)=lo+j - 1 by omega]
    exact l
 ·rintro c st' ⟨rfl,rfl,h3,h4,u⟩
  rw [Nat.max_eq_right (by omega)]at h3 h4 u ⊢
  exact h nrem h2 (ay _) u (.inl rfl)
def Down(lt:Kd->Kd->Bool)(arr:Array Kd)(lo n:Nat):Prop:= ∀i j,i < j->j < n->lt (At arr (lo+j)) (At arr (lo+i))=true
theorem HW{i j:Nat}{Q:Unit->bZ->Prop}(h:Q () (setArr st (mirror (arrOf st) i j ((j - i) / 2)))):wpS (model prog w) A E s (reverseSlice' i j) Q st:=mX h
theorem CJ{i j:Nat}{Q:Unit->bZ->Prop}(h:Q () (setArr st (bubble (arrOf st) i (i - j)))):wpS (model prog w) A E s (moveDown' i j) Q st:=mX h
set_option maxHeartbeats 4000000 in
theorem By{nrem:Nat}{Q:Option Nat->bZ->Prop}(o:mH S lt)(c:sD prog w A s κ S lt)(nd:a0.Nodup)(hS: ∀x∈a0,S x)(b:SB κ a0 p pre st)(hn:pre.length+nrem<=a0.length)(h1:1<=nrem)
  (h: ∀m st',SB κ a0 p pre st'->1<=m->m<=nrem->Up lt (arrOf st') pre.length m->Q (some m) st'):wpS (model prog w) A E s (countRun' pre.length nrem) Q st:=by
 refine aB (yt (lo:=pre.length) o nd hS b hn (ay 1) h1 (fun x m Q' hm hm1 k1 k2=> ?_) (fun i j hij hj=>by omega) fun m hm1 hm2 um hor=> ?_)
 ·refine aB (nu c b hS (by omega) (by omega) ?_)
  cases e:lt (At (arrOf st) (pre.length+m)) (At (arrOf st) (pre.length+m - 1))with
  | true=>exact aI (k1 e)
  | false=>exact aI (k2 e)
 refine bX (fun e=>aI (h m st b hm1 hm2 um)) fun e=> ?_
 have e: ¬m=nrem:=fun z=>e (beq_iff_eq.mpr z)
 have hlt:=hor.resolve_left e
 extract_lets n2 neq0 jp
 have q2:m+1=n2:=rfl
 have q0:0=neq0:=rfl
 clear_value n2 neq0
 subst q2 q0
 refine bX (fun e1=> ?_) fun e1=> ?_
 ·have e1:m > 1:=e1
  refine aB (nu c b hS (by omega) (show pre.length+m - 1 < a0.length by omega) ?_)
  have z:=um 0 (m - 1) (by omega) (by omega)
  rw [show pre.length+(m - 1)=pre.length+m - 1 by omega,Nat.add_zero]at z
  rw [z]
  exact aI (h m st b hm1 hm2 um)
 have e1: ¬m > 1:=e1
 have em:m=1:=by omega
 subst em
 refine aB (qV (e7 ⟨rfl, ?_⟩))
 refine aB (eJ (c9 (I:=fun x c st'=>st'=st/\c=(none,x,0)/\2<=x/\x<=nrem/\Down lt (arrOf st) pre.length x) (Q:=fun c st'=>st'=st/\ ∃m,c=(none,m,0)/\2<=m/\m<=nrem/\Down lt (arrOf st) pre.length m) ?_ ?_ ⟨rfl,rfl,ay _,by omega,fun i j hij hj=> ?_⟩) ?_)
 ·rintro x c' st' hx1 hx2 ⟨rfl,rfl,h3,h4,d⟩
  refine aB (nu c b hS (show pre.length+x < a0.length by omega) (show pre.length+x - 1 < a0.length by omega) ?_)
  cases eq:lt (At (arrOf st') (pre.length+x)) (At (arrOf st') (pre.length+x - 1))with
  | true=>
   refine bX (fun _=> ?_) fun z=>absurd rfl z
   refine bX (fun z=>absurd (show(0:Nat) > 0 from z) (by omega)) fun _=>aI ⟨rfl,rfl,by omega,by omega,fun i j hij hj=> ?_⟩
   by_cases z:j < x
   ·exact d i j hij z
   ·have ej:j=x:=by omega
    subst ej
    by_cases z2:i=j - 1
    ·subst z2
     rw [show pre.length+(j - 1)=pre.length+j - 1 by omega]
     exact eq
    ·refine o.tr _ _ _ eq ?_
     have:=d i (j - 1) (by omega) (by omega)
     rw [show pre.length+(j - 1)=pre.length+j - 1 by omega]at this
     exact this
  | false=>
   refine bX (fun z=>by cases z) fun _=> ?_
   refine aB (nu c b hS (show pre.length+x - 1 < a0.length by omega) (show pre.length+x < a0.length by omega) ?_)
   rw [o.tot _ _ (b.ss hS (by omega)) (b.ss hS (by omega)) (b.ne nd (by omega) (by omega) (by omega)) eq]
   exact aI ⟨rfl,x,rfl,h3,h4,d⟩
 ·rintro c' st' ⟨rfl,rfl,h3,h4,d⟩
  exact⟨rfl,_,rfl,h3,h4,d⟩
 ·have ei:i=0:=by omega
  have ej:j=1:=by omega
  subst ei ej
  exact hlt
 ·rintro c' st' ⟨rfl,m,rfl,h3,h4,d⟩
  refine bX (fun z=>absurd (show(0:Nat) > 0 from z) (by omega)) fun _=> ?_
  refine aB (HW ?_)
  have hsz:=b.size
  have gm:=fun k=>getElem?_mirror_all (xs:=arrOf st') (i:=pre.length) (j:=pre.length+m) (by omega) k
  have b2:SB κ a0 p pre (setArr st' (mirror (arrOf st') pre.length (pre.length+m) ((pre.length+m - pre.length) / 2))):=b.setArr (mirror_perm _ _ _ _) fun k hk=>by rw [gm k,if_neg (by omega)]
  have u2:Up lt (mirror (arrOf st') pre.length (pre.length+m) ((pre.length+m - pre.length) / 2)) pre.length m:=fun i j hij hj=>by
   have e1:=gm (pre.length+i)
   have e2:=gm (pre.length+j)
   rw [if_pos (by omega),show pre.length+(pre.length+m) - 1 - (pre.length+i)=pre.length+(m - 1 - i) by omega]at e1
   rw [if_pos (by omega),show pre.length+(pre.length+m) - 1 - (pre.length+j)=pre.length+(m - 1 - j) by omega]at e2
   rw [mq e1,mq e2]
   exact d _ _ (by omega) (by omega)
  refine aB (yt (lo:=pre.length) o nd hS b2 hn (show 1<=m by omega) h4 (fun x m Q' hm hm1 k1 k2=> ?_) u2 fun m2 hm1 hm2 um hor=> ?_)
  ·refine aB (nu c b2 hS (by omega) (by omega) ?_)
   cases e:lt (At (arrOf (setArr st' (mirror (arrOf st') pre.length (pre.length+_) ((pre.length+_ - pre.length) / 2)))) (pre.length+m)) (At (arrOf (setArr st' (mirror (arrOf st') pre.length (pre.length+_) ((pre.length+_ - pre.length) / 2)))) (pre.length+m - 1))with
   | true=>exact aI (k1 e)
   | false=>exact aI (k2 e)
  ·exact aI (h m2 _ b2 (bu (show 1<=m by omega) hm1) hm2 um)
set_option maxHeartbeats 4000000 in
theorem zP{n ok:Nat}{Q:Bool->bZ->Prop}(o:mH S lt)(c:sD prog w A s κ S lt)(nd:a0.Nodup)(hS: ∀x∈a0,S x)(b:SB κ a0 p pre st)(hn:pre.length+n<=a0.length)(h1:1<=ok)(h2:ok<=n)(u:Up lt (arrOf st) pre.length ok)
  (h: ∀st',SB κ a0 p pre st'->Up lt (arrOf st') pre.length n->Q true st'):wpS (model prog w) A E s (binarySort' pre.length n ok) Q st:=by
 refine aB (eJ (c9 (I:=fun k c st'=>c=(none,())/\SB κ a0 p pre st'/\ok<=k/\k<=n/\Up lt (arrOf st') pre.length k) (Q:=fun c st'=>c=(none,())/\SB κ a0 p pre st'/\Up lt (arrOf st') pre.length n) ?_ ?_ ⟨rfl,b,by omega,by omega,by rw [Nat.max_eq_left h1]; exact u⟩) ?_)
 ·rintro k c' st1 hk1 hk2 ⟨rfl,b1,k3,k4,u1⟩
  have key: ∀i,i < k->lt (At (arrOf st1) (pre.length+i)) (At (arrOf st1) (pre.length+k))= !lt (At (arrOf st1) (pre.length+k)) (At (arrOf st1) (pre.length+i)):=fun i hi=>by
   cases e:lt (At (arrOf st1) (pre.length+i)) (At (arrOf st1) (pre.length+k))with
   | true=>rw [o.DI _ _ e]; rfl
   | false=>rw [o.tot _ _ (b1.ss hS (by omega)) (b1.ss hS (by omega)) (b1.ne nd (by omega) (by omega) (by omega)) e]; rfl
  refine aB (s9 (n:=k) (p:=fun i=> !lt (At (arrOf st1) (pre.length+k)) (At (arrOf st1) (pre.length+i))) (fun x l r Q' hr j1 j2 j3=> ?_) (fun i j hij hj e=> ?_) (bQ _) (ay _) (fun i hi=>absurd hi (by omega)) (fun i hi hi2=>absurd hi (by omega)) fun q hq a1 a2=> ?_)
  ·refine bX (fun z=>aI (j1 z)) fun z=> ?_
   have z:l < r:=by have z: ¬l>=r:=z; omega
   have em:(l+r) / 2=l+(r - l) / 2:=by omega
   have hlt:l+(r - l) / 2 < r:=by omega
   refine aB (nu c b1 hS (show pre.length+k < a0.length by omega) (show pre.length+(l+r) / 2 < a0.length by omega) ?_)
   cases e:lt (At (arrOf st1) (pre.length+k)) (At (arrOf st1) (pre.length+(l+r) / 2))with
   | true=>
    have:=j3 z (by rw [<-em,e]; rfl)
    rw [<-em]at this
    exact aI this
   | false=>
    have:=j2 z (by rw [<-em,e]; rfl)
    rw [<-em]at this
    exact aI this
  ·rcases Nat.lt_or_eq_of_le hij with z | rfl
   ·rw [<-key i (by omega)]
    rw [<-key j hj]at e
    exact o.tr _ _ _ (u1 i j z hj) e
   ·exact e
  ·refine aB (CJ (aI ?_))
   have hsz:=b1.size
   have ed:pre.length+k - (pre.length+q)=k - q:=by omega
   have gb:=fun j=>getElem?_bubble (xs:=arrOf st1) (src:=pre.length+k) (by omega) (k - q) (by omega) j
   have es:pre.length+k - (k - q)=pre.length+q:=by omega
   rw [es]at gb
   show _=_/\SB κ a0 p pre (setArr st1 (bubble (arrOf st1) (pre.length+k) (pre.length+k - (pre.length+q))))/\_/\_/\Up lt (bubble (arrOf st1) (pre.length+k) (pre.length+k - (pre.length+q))) pre.length (k+1)
   rw [ed]
   refine⟨rfl,b1.setArr (bubble_perm _ _ _) fun j hj=>by rw [gb j,if_neg (by omega),if_neg (by omega)],by omega,by omega,fun i j hij hj=> ?_⟩
   have e1:=gb (pre.length+i)
   have e2:=gb (pre.length+j)
   have lo_: ∀i,i < q->lt (At (arrOf st1) (pre.length+i)) (At (arrOf st1) (pre.length+k))=true:=fun i hi=>by rw [key i (by omega)]; exact a1 i hi
   have hi_: ∀i,q<=i->i < k->lt (At (arrOf st1) (pre.length+k)) (At (arrOf st1) (pre.length+i))=true:=fun i h1 h2=>by simpa using a2 i h1 h2
   rcases Gf j q with z | z | z
   ·rw [if_neg (by omega),if_neg (by omega)]at e1 e2
    rw [mq e1,mq e2]
    exact u1 i j hij (by omega)
   ·rw [if_neg (by omega),if_neg (by omega)]at e1
    rw [if_pos (by omega)]at e2
    rw [mq e1,mq e2]
    exact lo_ i (by omega)
   ·rw [if_neg (by omega),if_pos (by omega),show pre.length+j - 1=pre.length+(j - 1) by omega]at e2
    rcases Gf i q with y | y | y
    ·rw [if_neg (by omega),if_neg (by omega)]at e1
     rw [mq e1,mq e2]
     exact u1 i (j - 1) (by omega) (by omega)
    ·rw [if_pos (by omega)]at e1
     rw [mq e1,mq e2]
     exact hi_ _ (by omega) (by omega)
    ·rw [if_neg (by omega),if_pos (by omega),show pre.length+i - 1=pre.length+(i - 1) by omega]at e1
     rw [mq e1,mq e2]
     exact u1 (i - 1) (j - 1) (by omega) (by omega)
 ·rintro c' st1 ⟨rfl,b1,k3,k4,u1⟩
  have e:max (max ok 1) n=n:=by omega
  rw [e]at u1
  exact⟨rfl,b1,u1⟩
 ·rintro c' st1 ⟨rfl,b1,u1⟩
  exact aI (h st1 b1 u1)
end
abbrev Run:=List Kd×Nat
def flat(rs:List Run):List Kd:=(rs.map (·.1)).flatten
def ir:Nat->List Run->List (Nat×Nat×Nat)
 | _, []=> []
 | n,(x,pw)::r=>(n,x.length,pw)::ir (n+x.length) r
theorem HY{α:Type}(l m:List α)(a c:α):(l ++ a::m).set l.length c=l ++ c::m:=by simp
theorem BW{α:Type}(l m:List α)(a b:α):(l ++ a::b::m).eraseIdx (l.length+1)=l ++ a::m:=by
 rw [List.eraseIdx_append_of_length_le (by omega),iZ]
 rfl
theorem xo{α:Type}(l:List α)(a:α)(f:α->α):(l ++ [a]).modify ((l ++ [a]).length - 1) f=l ++ [f a]:=by
 rw [ao,fb,Nat.add_sub_cancel]
 induction l with
 | nil=>rfl
 | cons b l ih=>exact congrArg (b:: ·) ih
theorem jn(a b:List Run):flat (a ++ b)=flat a ++ flat b:=by unfold flat; rw [bo,pS]
theorem eI(x:List Kd)(pw:Nat)(b:List Run):flat ((x,pw)::b)=x ++ flat b:=by unfold flat; rw [bf,cw]
theorem jN: ∀(a b:List Run) (n:Nat),ir n (a ++ b)=ir n a ++ ir (n+(flat a).length) b
 | [],b,n=>by simp [ir,flat]
 | (x,pw)::a,b,n=>by
  rw [mD,ir,ir,jN a b,mD,eI,ao,mi]
theorem nI: ∀(a:List Run) (n:Nat),(ir n a).length=a.length
 | [],n=>rfl
 | (x,pw)::a,n=>by rw [ir,aH,aH,nI a]
structure RI(κ:jL)(lt:Kd->Kd->Bool)(a0:List Kd)(rs:List Run)(rest:List Kd)(st:bZ):Prop where
 kind:kindOf st=κ
 failed:gY st=none
 perm:(arrOf st).toList.Perm a0
 arr:(arrOf st).toList=flat rs ++ rest
 pend:b_ st=(ir 0 rs).toArray
 good: ∀r∈rs,0 < r.1.length/\k_ lt r.1
section
variable {prog:aq}{w:World}{A:bh}{E:Value->ah->Prop}{s:ah}{κ:jL}{S:Kd->Prop}{lt:Kd->Kd->Bool}{st:bZ}{a0 rest:List Kd}{rs:List Run}
theorem RI.lu(b:RI κ lt a0 rs rest st):rs.length<=(flat rs).length:=by
 have g:=b.good
 clear b
 induction rs with
 | nil=>exact bQ _
 | cons r rs ih=>
  obtain⟨x,pw⟩:=r
  have:=ih fun r hr=>g r (.tail _ hr)
  have:=(g (x,pw) (.head _)).1
  rw [eI,ao,aH]
  dsimp only at this
  omega
theorem RI.merge(o:mH S lt)(c:sD prog w A s κ S lt)(nd:a0.Nodup)(hS: ∀x∈a0,S x)(b:RI κ lt a0 rs rest st){i:Nat}(hi:i+1 < rs.length){Q:Bool->bZ->Prop}
  (h: ∀(rs':List Run) (st':bZ),RI κ lt a0 rs' rest st'->rs'.length+1=rs.length->(flat rs').length=(flat rs).length->Q true st'):wpS (model prog w) A E s (mergeAt' i) Q st:=by
 obtain⟨r1,x,pw,y,pw2,r2,rfl,hl⟩: ∃r1 x pw y pw2 r2,rs=r1 ++ (x,pw)::(y,pw2)::r2/\r1.length=i:=by
  have h0:i < rs.length:=by omega
  refine⟨rs.take i,rs[i].1,rs[i].2,rs[i+1].1,rs[i+1].2,rs.drop (i+2), ?_,by rw [a8]; omega⟩
  show rs=rs.take i ++ rs[i]::rs[i+1]::rs.drop (i+2)
  rw [<-lF hi, <-lF h0,aU]
 subst hl
 have gx:=b.good (x,pw) (by simp)
 have gy:=b.good (y,pw2) (by simp)
 have e:(arrOf st).toList=flat r1 ++ (x ++ (y ++ (flat r2 ++ rest))):=by rw [b.arr,jn,eI,eI]; simp
 have nd':(flat r1 ++ (x ++ (y ++ (flat r2 ++ rest)))).Nodup:=by rw [<-e]; exact b.perm.symm.nodup nd
 have mem: ∀u,u∈(arrOf st).toList->S u:=fun u hu=>hS u (b.perm.mem_iff.mp hu)
 have pe:b_ st=(ir 0 r1 ++ ((flat r1).length,x.length,pw)::((flat r1).length+x.length,y.length,pw2)::ir ((flat r1).length+x.length+y.length) r2).toArray:=by
  rw [b.pend,jN,ir,ir,Aa]
 have lp:=nI r1 0
 refine yl (pre:=flat r1) (x:=x) (y:=y) (post:=flat r2 ++ rest) o c b.kind b.failed (pw:=pw) (pw2:=pw2) ?_ ?_ e gx.1 gy.1 gx.2 gy.2 (fun u hu=>mem u (by rw [e]; simp [hu])) (fun u hu=>mem u (by rw [e]; simp [hu])) (fun u hu v hv z=> ?_) fun z st' k1 k2 k3 k4 k5 k6=> ?_
 ·rw [pe,nZ,eZ (by omega),lp,kj]
  rfl
 ·rw [pe,nZ,eZ (by omega),lp,iZ]
  rfl
 ·subst z
  have:=(jd.mp (jd.mp nd').2.1).2.2 u hu u (by simp [hv])
  exact this rfl
 ·have lz:z.length=x.length+y.length:=by rw [k5.length_eq,ao]
  refine h (r1 ++ (z,pw)::r2) st' ⟨k1,k2, ?_, ?_, ?_, ?_⟩ ?_ ?_
  ·rw [k4]
   refine j_ ?_ b.perm
   rw [e]
   refine dQ _ ?_
   rw [<-aM x y]
   exact k5.append_right _
  ·rw [k4,jn,eI]
   simp
  ·rw [k3,pe,jN,ir,Aa,lz, <-lp]
   apply mE.mp
   rw [Array.toList_eraseIdxIfInBounds,Array.toList_setIfInBounds]
   rw [HY,BW,mi]
  ·intro r hr
   rcases bE.mp hr with hr | hr
   ·exact b.good r (by simp [hr])
   ·rcases aK.mp hr with rfl | hr
    ·have gx1:0 < x.length:=gx.1
     exact⟨show 0 < z.length by omega,k6⟩
    ·exact b.good r (by simp [hr])
  ·simp
   omega
  ·rw [jn,eI,jn,eI,eI]
   simp [lz,mi]
theorem RI.sb(b:RI κ lt a0 rs rest st):SB κ a0 (b_ st) (flat rs) st:=⟨b.kind,b.failed,b.perm,rfl,by rw [b.arr,jM (ay _),dB (ay _)]⟩
theorem RI.next(b:RI κ lt a0 rs rest st){st':bZ}{n:Nat}(b':SB κ a0 (b_ st) (flat rs) st')(hn:(flat rs).length+n<=a0.length)(u:Up lt (arrOf st') (flat rs).length n): ∃x rest',RI κ lt a0 rs (x ++ rest') st'/\x.length=n/\k_ lt x:=by
 have hsz:=b'.size
 refine⟨((arrOf st').toList.drop (flat rs).length).take n,((arrOf st').toList.drop (flat rs).length).drop n,⟨b'.kind,b'.failed,b'.perm, ?_,b'.pend.trans b.pend,b.good⟩, ?_, ?_⟩
 ·rw [aU]
  conv=>rhs; lhs; rw [<-b'.pre]
  rw [aU]
 ·rw [a8,bw,aj]; omega
 ·rw [k_,b8]
  intro i j hi hj hij
  rw [a8,bw,aj]at hi hj
  rw [fA,fA,dE,dE]
  have g: ∀k (hk:(flat rs).length+k < (arrOf st').toList.length),(arrOf st').toList[(flat rs).length+k]=At (arrOf st') ((flat rs).length+k):=fun k hk=>by
   have e:=nF (arr:=arrOf st') (i:=(flat rs).length+k) (by rw [aj]at hk; exact hk)
   rw [<-bp,ai hk]at e
   exact aC e
  rw [g,g]
  exact u i j hij (by omega)
theorem RI.push{x rest':List Kd}(b:RI κ lt a0 rs (x ++ rest') st)(hx:0 < x.length)(sx:k_ lt x){lo:Nat}(hl:lo=(flat rs).length):RI κ lt a0 (rs ++ [(x,0)]) rest' (setPending st ((b_ st).push (lo,x.length,0))):=by
 refine⟨b.kind,b.failed,b.perm, ?_, ?_,fun r hr=> ?_⟩
 ·show(arrOf st).toList=_
  rw [b.arr,jn,eI]
  simp [flat]
 ·show(b_ st).push _=_
  rw [b.pend,jN,ir,ir,hl]
  simp
 ·rcases bE.mp hr with hr | hr
  ·exact b.good r hr
  ·rcases aJ.mp hr with rfl
   exact⟨hx,sx⟩
theorem RI.power(b:RI κ lt a0 rs rest st)(pw:Nat): ∃rs',RI κ lt a0 rs' rest (setPending st ((b_ st).modify ((b_ st).size - 1) fun(x:Nat×Nat×Nat)=>match x with | (s,l,_)=>(s,l,pw)))/\(flat rs').length=(flat rs).length:=by
 rcases List.eq_nil_or_concat rs with rfl | ⟨r,q,rfl⟩
 ·refine⟨[],⟨b.kind,b.failed,b.perm,b.arr, ?_,b.good⟩,rfl⟩
  generalize hY:(b_ st).modify ((b_ st).size - 1) _=Y
  show Y=_
  rw [<-hY,b.pend]
  rfl
 ·obtain⟨x,p⟩:=q
  rw [List.concat_eq_append]at b ⊢
  refine⟨r ++ [(x,pw)],⟨b.kind,b.failed,b.perm, ?_, ?_,fun u hu=> ?_⟩,by simp [jn,eI]⟩
  ·show(arrOf st).toList=_
   rw [b.arr]
   simp [jn,eI]
  ·generalize hY:(b_ st).modify ((b_ st).size - 1) _=Y
   show Y=_
   rw [<-hY,b.pend,jN,jN,ir,ir,ir]
   apply mE.mp
   rw [Array.toList_modify,az,xo]
   rfl
  ·rcases bE.mp hu with hu | hu
   ·exact b.good u (by simp [hu])
   ·rcases aJ.mp hu with rfl
    exact b.good (x,p) (by simp)
set_option maxHeartbeats 4000000 in
theorem EV{Q:Unit->bZ->Prop}(o:mH S lt)(c:sD prog w A s κ S lt)(nd:a0.Nodup)(hS: ∀x∈a0,S x)(hk:kindOf st=κ)(hf:gY st=none)(hp:b_ st= #[])(ha:(arrOf st).toList=a0)
  (h: ∀st',gY st'=none->(arrOf st').toList.Perm a0->k_ lt (arrOf st').toList->Q () st'):wpS (model prog w) A E s sortRuns' Q st:=by
 have hsz:(arrOf st).size=a0.length:=by rw [<-aj,ha]
 rw [sortRuns'_eq]
 refine aB (mW ?_)
 rw [hsz]
 refine aB (eJ (c9 (I:=fun x c st'=> ∃rs rest,c=(none,(flat rs).length)/\RI κ lt a0 rs rest st'/\x<=(flat rs).length)
  (Q:=fun c st'=> ∃rs rest,c=(none,(flat rs).length)/\RI κ lt a0 rs rest st'/\a0.length<=(flat rs).length) ?_ ?_ ⟨[],a0,rfl,⟨hk,hf,by rw [ha],by rw [ha]; rfl,hp,fun r hr=>by cases hr⟩,bQ _⟩) ?_)
 ·rintro x c' st1 _ hx ⟨rs,rest,rfl,b,hlo⟩
  refine bX (fun e=>aI ⟨rs,rest,rfl,b,e⟩) fun e=> ?_
  have e:(flat rs).length < a0.length:=by have e: ¬(flat rs).length>=a0.length:=e; omega
  refine aB (By (pre:=flat rs) o c nd hS b.sb (by omega) (by omega) fun m st2 b2 m1 m2 u2=> ?_)
  dsimp -zeta only
  extract_lets n1 jp force n2
  have J: ∀(n:Nat) (st3:bZ),SB κ a0 (b_ st1) (flat rs) st3->1<=n->(flat rs).length+n<=a0.length->Up lt (arrOf st3) (flat rs).length n->wpS (model prog w) A E s (jp () n) (fun r st'=>match r with
    | .done c'=> ∃rs rest,c'=(none,(flat rs).length)/\RI κ lt a0 rs rest st'/\a0.length<=(flat rs).length
    | .yield c'=> ∃rs rest,c'=(none,(flat rs).length)/\RI κ lt a0 rs rest st'/\x+1<=(flat rs).length) st3:=fun n st3 b3 n1 n2 u3=>by
   obtain⟨y,rest',b4,ly,sy⟩:=b.next b3 n2 u3
   refine aB (mW ?_)
   extract_lets lo2 jp2
   have J2: ∀(st4:bZ) (rs4:List Run),RI κ lt a0 rs4 (y ++ rest') st4->(flat rs4).length=(flat rs).length->wpS (model prog w) A E s (jp2 ()) (fun r st'=>match r with
    | .done c'=> ∃rs rest,c'=(none,(flat rs).length)/\RI κ lt a0 rs rest st'/\a0.length<=(flat rs).length
    | .yield c'=> ∃rs rest,c'=(none,(flat rs).length)/\RI κ lt a0 rs rest st'/\x+1<=(flat rs).length) st4:=fun st4 rs4 b5 l5=>by
    refine aB (mX (aI ?_))
    have lf:(flat (rs4 ++ [(y,0)])).length=(flat rs).length+n:=by rw [jn,eI,ao,ao,l5,ly]; rfl
    refine⟨rs4 ++ [(y,0)],rest',by rw [lf], ?_,by omega⟩
    have:=b5.push (by omega) sy l5.symm
    rw [ly]at this
    exact this
   cases hb:(b_ st3).back? with
   | none=>exact J2 st3 rs b4 rfl
   | some q=>
    obtain⟨s1,m1,m2⟩:=q
    refine aB (eJ (c9 (I:=fun _ c st'=>c=(none,())/\ ∃rs4,RI κ lt a0 rs4 (y ++ rest') st'/\(flat rs4).length=(flat rs).length) (Q:=fun c st'=>c=(none,())/\ ∃rs4,RI κ lt a0 rs4 (y ++ rest') st'/\(flat rs4).length=(flat rs).length) ?_ (fun _ _ z=>z) ⟨rfl,rs,b4,rfl⟩) ?_)
    ·rintro x' c' st5 _ hx' ⟨rfl,rs4,b5,l5⟩
     refine aB (mW ?_)
     dsimp only
     have hps:(b_ st5).size=rs4.length:=by rw [b5.pend,az,nI]
     by_cases h1:(b_ st5).size > 1
     ·rw [if_pos h1]
      cases hq:(b_ st5)[(b_ st5).size - 2]? with
      | none=>exact aI ⟨rfl,rs4,b5,l5⟩
      | some q=>
       obtain⟨q1,q2,older⟩:=q
       refine bX (fun _=>aI ⟨rfl,rs4,b5,l5⟩) fun _=> ?_
       rw [hps]
       refine aB (b5.merge o c nd hS (by omega) fun rs' st' b' k1 k2=> ?_)
       exact aI ⟨rfl,rs',b',by omega⟩
     ·rw [if_neg h1]
      exact aI ⟨rfl,rs4,b5,l5⟩
    ·rintro c' st5 ⟨rfl,rs4,b5,l5⟩
     refine aB (mX ?_)
     obtain⟨rs6,b6,l6⟩:=b5.power (power' a0.length (2 * s1+m1) (2 * s1+m1+m1+n) a0.length)
     exact J2 _ rs6 b6 (by omega)
  have m2:m<=a0.length - (flat rs).length:=m2
  refine bX (fun e1=> ?_) fun e1=> ?_
  ·refine aB (qV (e7 ⟨rfl, ?_⟩))
   have e1:m < minRun' a0.length a0.length 0:=e1
   refine aB (zP (n:=force) o c nd hS b2 (show(flat rs).length+min (a0.length - (flat rs).length) (minRun' a0.length a0.length 0)<=a0.length by omega) m1 (show m<=min (a0.length - (flat rs).length) (minRun' a0.length a0.length 0) by omega) u2 fun st3 b3 u3=> ?_)
   exact eJ (J force st3 b3 (show 1<=min (a0.length - (flat rs).length) (minRun' a0.length a0.length 0) by omega) (show(flat rs).length+min (a0.length - (flat rs).length) (minRun' a0.length a0.length 0)<=a0.length by omega) u3) fun r st' z=>by cases r <;> exact z
  ·exact eJ (J m st2 b2 m1 (by omega) u2) fun r st' z=>by cases r <;> exact z
 ·rintro c' st1 ⟨rs,rest,rfl,b,hlo⟩
  exact⟨rs,rest,rfl,b,by omega⟩
 ·rintro c' st1 ⟨rs,rest,rfl,b,hlo⟩
  have hre:rest= []:=by
   have:=b.perm.length_eq
   rw [b.arr,ao]at this
   exact yZ.mp (by omega)
  subst hre
  have hfl:(flat rs).length=a0.length:=by
   have:=b.perm.length_eq
   rw [b.arr,ao]at this
   simpa using this
  have hfew:=b.lu
  refine aB (eJ (c9 (I:=fun x c st'=>c=(none,())/\ ∃rs,RI κ lt a0 rs [] st'/\(rs.length+x<=a0.length\/rs.length<=1)) (Q:=fun c st'=>c=(none,())/\ ∃rs,RI κ lt a0 rs [] st'/\rs.length<=1) ?_ ?_ ⟨rfl,rs,b, .inl (by omega)⟩) ?_)
  ·rintro x c' st2 _ hx ⟨rfl,rs,b,hl⟩
   refine aB (mW ?_)
   have hps:(b_ st2).size=rs.length:=by rw [b.pend,az,nI]
   dsimp only
   rw [hps]
   refine bX (fun e=>aI ⟨rfl,rs,b,e⟩) fun e=> ?_
   have e: ¬rs.length<=1:=e
   refine aB (b.merge o c nd hS ?_ fun rs' st' b' l1 l2=> ?_)
   ·by_cases z0:rs.length - 2 > 0
    ·rw [if_pos z0]
     split <;> omega
    ·rw [if_neg z0,if_neg (by simp)]
     omega
   ·exact aI ⟨rfl,rs',b', .inl (by omega)⟩
  ·rintro c' st2 ⟨rfl,rs,b,hl⟩
   exact⟨rfl,rs,b,by rcases hl with hl | hl <;> omega⟩
  ·rintro c' st2 ⟨rfl,rs,b,hl⟩
   refine aI (h st2 b.failed b.perm ?_)
   rw [b.arr,aZ]
   match rs,hl,b with
   | [],_,_=>exact fw
   | [(x,pw)],_,b=>
    rw [eI]
    have:=(b.good (x,pw) (.head _)).2
    simpa [flat]using this
end
abbrev gP:=List (List Int)
section
variable {prog:aq}{w:World}
abbrev T1(prog:aq)(w:World)(h:Heap)(r:List Int)(b:Addr):Prop:=(kx (fG prog w)).is h r b
inductive qK(prog:aq)(w:World)(h:Heap):gP->List Value->Prop
 | nil:qK prog w h [] []
 | cons {r:List Int} {b:Addr} {rs:gP} {vs:List Value}:T1 prog w h r b->qK prog w h rs vs->qK prog w h (r::rs) (.ref b::vs)
def T2(prog:aq)(w:World)(h:Heap)(rs:gP)(a:Addr):Prop:= ∃o items n,h.get? a=some o/\o.cls= .type "tuple"/\o.data= .seq items n/\qK prog w h rs items.toList
theorem T1.keep{h h':Heap}{r:List Int}{b:Addr}(x:T1 prog w h r b)(k: ∀c o,(o.cls= .type "tuple"/\ ∃items n,o.data= .seq items n)->h.get? c=some o->h'.get? c=some o):T1 prog w h' r b:=
 let⟨o,items,n,h1,h2,h3⟩:=x; ⟨o,items,n,k b o ⟨h2,_,_,h3.1⟩ h1,h2,h3⟩
theorem qK.keep{h h':Heap}(k: ∀c o,(o.cls= .type "tuple"/\ ∃items n,o.data= .seq items n)->h.get? c=some o->h'.get? c=some o): ∀{rs:gP} {vs:List Value},qK prog w h rs vs->qK prog w h' rs vs
 | _,_, .nil=> .nil
 | _,_, .cons x t=> .cons (T1.keep x k) (qK.keep k t)
theorem T2.keep{h h':Heap}{rs:gP}{a:Addr}(x:T2 prog w h rs a)(k: ∀c o,(o.cls= .type "tuple"/\ ∃items n,o.data= .seq items n)->h.get? c=some o->h'.get? c=some o):T2 prog w h' rs a:=
 let⟨o,items,n,h1,h2,h3,h4⟩:=x; ⟨o,items,n,k a o ⟨h2,_,_,h3⟩ h1,h2,h3,h4.keep k⟩
theorem qK.inj{h:Heap}: ∀{x y:gP} {vs:List Value},qK prog w h x vs->qK prog w h y vs->x=y
 | _,_,_, .nil, .nil=>rfl
 | _,_,_, .cons a s, .cons b t=>by rw [(kx (fG prog w)).inj a b,qK.inj s t]
theorem T2.inj{h:Heap}{a:Addr}{x y:gP}(p:T2 prog w h x a)(q:T2 prog w h y a):x=y:=by
 obtain⟨o,i,n,h1,_,h3,h4⟩:=p
 obtain⟨o',i',n',h1',_,h3',h4'⟩:=q
 rw [h1]at h1'
 cases h1'
 rw [h3]at h3'
 cases h3'
 exact h4.inj h4'
theorem qK.len{h:Heap}: ∀{rs:gP} {vs:List Value},qK prog w h rs vs->rs.length=vs.length
 | _,_, .nil=>rfl
 | _,_, .cons _ t=>by rw [aH,aH,qK.len t]
theorem T2.ty{s:ah}{rs:gP}{a:Addr}(x:T2 prog w s.heap rs a):s.TypeIs (.ref a) "tuple":=let⟨o,_,_,h1,h2,_⟩:=x; ⟨o,h1,h2⟩
def yV(r:List Int):PyData:= .tuple (r.map .int)
def CC(rs:gP):PyData:= .tuple (rs.map yV)
theorem qz{h:Heap}: ∀{r:List Int} {vs:List Value},kW (fG prog w) r vs->ReadsAll h vs (r.map .int) []
 | _,_, .nil=> .nil
 | _,_, .cons a t=>by
  obtain⟨tk,rfl⟩:=lI a
  exact .cons (.int _ tk) (qz t)
theorem r8{h:Heap}{r:List Int}{b:Addr}(x:T1 prog w h r b): ∃as,Reads h (.ref b) (yV r) as:=by
 obtain⟨o,items,n,h1,h2,h3,h4⟩:=x
 exact⟨_, .tuple h1 h2 h3 (qz h4)⟩
theorem uW{h:Heap}: ∀{rs:gP} {vs:List Value},qK prog w h rs vs-> ∃as,ReadsAll h vs (rs.map yV) as
 | _,_, .nil=>⟨_, .nil⟩
 | _,_, .cons x t=>by
  obtain⟨as,q⟩:=r8 x
  obtain⟨bs,u⟩:=uW t
  exact⟨_, .cons q u⟩
theorem yc{h:Heap}{rs:gP}{a:Addr}(x:T2 prog w h rs a): ∃as,Reads h (.ref a) (CC rs) as:=by
 obtain⟨o,items,n,h1,h2,h3,h4⟩:=x
 obtain⟨as,q⟩:=uW h4
 exact⟨_, .tuple h1 h2 h3 q⟩
theorem lay_ints: ∀r:List Int,eB (r.map .int)=true
 | []=>by simp [eB]
 | x::r=>by simp only [bf,eB,jc,lay_ints r,gE]
theorem vw(r:List Int):(yV r).canLay0=true:=by unfold yV; simp only [jc,lay_ints]
theorem yC: ∀rs:gP,eB (rs.map yV)=true
 | []=>by simp [eB]
 | x::r=>by simp only [bf,eB,vw,yC r,gE]
theorem AQ(rs:gP):(CC rs).canLay0=true:=by unfold CC; simp only [jc,yC]
theorem xc: ∀r:List Int,dH (r.map .int)=0
 | []=>by simp [dH]
 | x::r=>by simp only [bf,dH,ki,xc r,Nat.max_self]
theorem vI(r:List Int):(yV r).depth=1:=by unfold yV; simp only [ki,xc]
theorem yD: ∀rs:gP,dH (rs.map yV)<=1
 | []=>by simp [dH]
 | x::r=>by simp only [bf,dH,vI]; exact Nat.max_le.mpr ⟨ay _,yD r⟩
theorem HV(rs:gP):(CC rs).depth<=2:=by unfold CC; simp only [ki]; have:=yD rs; omega
theorem K7: ∀(x y:List Int),dw (x.map .int) (y.map .int)=decide (x=y)
 | [], []=>by simp [dw]
 | [],_::_=>by simp [dw]
 | _::_, []=>by simp [dw]
 | a::x,b::y=>by
  simp only [bf,dw,K7 x y,iU]
  by_cases h:a=b <;> by_cases h':x=y <;> simp [h,h']
theorem Ah(x y:List Int):iU (yV x) (yV y)=decide (x=y):=by unfold yV; simp only [iU,K7]
theorem KS: ∀(x y:gP),dw (x.map yV) (y.map yV)=decide (x=y)
 | [], []=>by simp [dw]
 | [],_::_=>by simp [dw]
 | _::_, []=>by simp [dw]
 | a::x,b::y=>by
  simp only [bf,dw,KS x y,Ah]
  by_cases h:a=b <;> by_cases h':x=y <;> simp [h,h']
theorem HX(x y:gP):iU (CC x) (CC y)=decide (x=y):=by unfold CC; simp only [iU,KS]
variable {A:bh}{E:Value->ah->Prop}{s:ah}
theorem Al{x y:List Int}{a b:Addr}(hu:A.units+1 < cLine)(p:T1 prog w s.heap x a)(q:T1 prog w s.heap y b):SeqAt.EqAt A s (.ref a) (.ref b) (decide (x=y)):=by
 obtain⟨as,r1⟩:=r8 p
 obtain⟨bs,r2⟩:=r8 q
 have:=SeqAt.eqAt_reads (yV x) (yV y) A s (.ref a) (.ref b) as bs r1 r2 (vw x) (vw y) (by rw [vI,vI]; exact hu)
 rw [Ah]at this
 exact this
theorem AZ{x y:gP}{a b:Addr}(hu:A.units+2 < cLine)(p:T2 prog w s.heap x a)(q:T2 prog w s.heap y b):SeqAt.EqAt A s (.ref a) (.ref b) (decide (x=y)):=by
 obtain⟨as,r1⟩:=yc p
 obtain⟨bs,r2⟩:=yc q
 have:=SeqAt.eqAt_reads (CC x) (CC y) A s (.ref a) (.ref b) as bs r1 r2 (AQ x) (AQ y) (by have:=HV x; have:=Nat.min_le_left (CC x).depth (CC y).depth; omega)
 rw [HX]at this
 exact this
def uN(prog:aq)(w:World)(rs:gP):Int:=wO (fk (rs.map (kx (fG prog w)).hash))
def ku:gP->Nat
 | []=>0
 | r::rs=>(r.length+1)+ku rs
theorem uJ: ∀a b:gP,ku (a ++ b)=ku a+ku b
 | [],b=>by simp [ku]
 | r::a,b=>by rw [mD,ku,ku,uJ a b]; omega
theorem Gn{rs:gP}{a:Addr}{Q:Int->ah->Prop}(hu:A.units+1 < cLine)(x:T2 prog w s.heap rs a)(h:Q (uN prog w rs) {s with toks:=s.toks+(ku rs+1)}):wpAny (model prog w) A (pyHash (.ref a)) Q E s:=by
 have ty:=x.ty
 obtain⟨o,items,n,h1,_,h3,h4⟩:=x
 have hu0:A.units < cLine:=by omega
 unfold pyHash
 first | unfold pyHashByItsType | skip
 first | refine aa (wpAny_cRoomFor_or (.inr hu0) ?_) | skip
 refine aa (gB ty qW.lookup ?_)
 show wpAny _ _ (if(some (mh "tuple.__hash__")==some aY)=true then _ else _) Q E s
 rw [if_neg (by rw [beq_builtin_none]; exact aA)]
 refine aa (gB ty qW.lookup ?_)
 show wpAny _ _ (callSpecialIfBoundUnlessNone? (.ref a) "__hash__" _ >>=_) Q E s
 refine aa (wpAny_callSpecialIfBoundUnlessNone?_slot ty qW (bI qW ty F.entry_tuple_hash ?_ (F.args_tuple_hash_1 _)))
 show wpAny _ _ (wM (.ref a) >>=_) _ _ s
 refine aa (wpAny_tupleItemsOf h1 h3 ?_)
 refine aa ?_
 rw [<-gr]
 refine mz _ (fun rest (b:Array Int) s'=> ∃d l,rs=d ++ l/\qK prog w s.heap l rest/\b.toList=d.map (kx (fG prog w)).hash/\s'={s with toks:=s.toks+ku d}) _ ?_ ?_ _ _ ⟨[],rs,rfl,h4,rfl,rfl⟩
 ·rintro v rest b s' ⟨d,l,rfl,hl,hb,rfl⟩
  cases hl with
  | @cons r c ks _ q hl'=>
   refine aa ((kx (fG prog w)).pyHash (show A.in1.units < cLine from hu) q ?_)
   have e:ku (d ++ [r])=ku d+(r.length+1):=by rw [uJ]; rfl
   have fin:({s with toks:=s.toks+ku d+(r.length+1)}:ah)={s with toks:=s.toks+ku (d ++ [r])}:=by rw [e,mi]
   first
    | exact af ⟨d ++ [r],ks,by simp,hl',by simp [hb],fin⟩
    | exact aa (af (af ⟨d ++ [r],ks,by simp,hl',by simp [hb],fin⟩))
 ·rintro b s' ⟨d,l,rfl,hl,hb,rfl⟩
  cases hl
  rw [aZ]at h
  show wpAny _ _ (retInt (fk b.toList)) _ _ _
  rw [hb]
  refine wpAny_ret_mkInt ?_
  unfold uN wO at h
  generalize fk (d.map (kx (fG prog w)).hash)=z at h ⊢
  show wpAny _ _ (if(decide (-(2:Int) ^ 63<=z)&&decide (z < 2 ^ 63))=true then _ else _) Q E _
  by_cases hz:(decide (-(2:Int) ^ 63<=z)&&decide (z < 2 ^ 63))=true
  ·rw [if_pos hz]at h ⊢
   exact af h
  ·rw [if_neg hz]at h ⊢
   exact aa (e7 (af h))
theorem EC{r:List Int}{b:Addr}{n:Nat}{Q:Bool->ah->Prop}(x:T1 prog w s.heap r b)(h:Q true s):wpAny (model prog w) A (eqIsQuiet (n+1) (.ref b)) Q E s:=by
 have ty:s.TypeIs (.ref b) "tuple":=IsTupleKey.typeIs x
 obtain⟨o,items,k,h1,_,h3,h4⟩:=x
 unfold eqIsQuiet
 refine aa (gB ty F.slot_tuple_eq.lookup ?_)
 show wpAny _ _ (isInstance (.ref b) (.type "tuple") >>=_) _ _ s
 refine aa (eS ty isSubtype_tuple_tuple ?_)
 simp only [eP,a_,if_false]
 refine aa (dA h1 h3 ?_)
 refine aa ?_
 show wpAny _ _ (forIn items _ _) _ _ s
 rw [<-gr]
 refine mz _ (fun rest z s'=>z.1=none/\s'=s/\ ∀v∈rest,carriedByValue v=true) _ ?_ ?_ _ _ ⟨rfl,rfl,h4.byValue⟩
 ·rintro v rest z s' ⟨hz,rfl,all⟩
  rw [eqIsQuiet_byValue _ (all v bT)]
  refine aa (af ?_)
  simp only [eP,a_,if_false]
  exact af ⟨rfl,rfl,fun u q=>all u (cb _ q)⟩
 ·rintro⟨z1,z2⟩ s' ⟨hz,rfl,_⟩
  simp only at hz
  subst hz
  exact af h
theorem EW{rs:gP}{a:Addr}{n:Nat}{Q:Bool->ah->Prop}(x:T2 prog w s.heap rs a)(h:Q true s):wpAny (model prog w) A (eqIsQuiet (n+2) (.ref a)) Q E s:=by
 have ty:=x.ty
 obtain⟨o,items,k,h1,_,h3,h4⟩:=x
 unfold eqIsQuiet
 refine aa (gB ty F.slot_tuple_eq.lookup ?_)
 show wpAny _ _ (isInstance (.ref a) (.type "tuple") >>=_) _ _ s
 refine aa (eS ty isSubtype_tuple_tuple ?_)
 simp only [eP,a_,if_false]
 refine aa (dA h1 h3 ?_)
 refine aa ?_
 show wpAny _ _ (forIn items _ _) _ _ s
 rw [<-gr]
 refine mz _ (fun rest z s'=>z.1=none/\s'=s/\ ∃l,qK prog w s.heap l rest) _ ?_ ?_ _ _ ⟨rfl,rfl,rs,h4⟩
 ·rintro v rest z s' ⟨hz,rfl,l,hl⟩
  cases hl with
  | cons q t=>
   refine aa (EC q ?_)
   simp only [eP,a_,if_false]
   exact af ⟨rfl,rfl,_,t⟩
 ·rintro⟨z1,z2⟩ s' ⟨hz,rfl,_⟩
  simp only at hz
  subst hz
  exact af h
end
def n9(prog:aq)(w:World):HeapKind prog w gP where
 is:=T2 prog w
 hash:=uN prog w
 draws:=fun rs=>ku rs+1
 room:=fun A=>A.units+2 < cLine
 inj:=fun p q=>p.inj q
 keeps:=fun{h h' k a d o es ep} x ho hd hs=>x.keep fun c u hc hu=>by
  refine(hs.2 c ?_).trans hu
  rintro rfl
  rw [hu]at ho
  cases ho
  obtain⟨_,_,_,z⟩:=hc
  rw [hd]at z
  cases z
 pyHash:=fun hu x h=>Gn (by omega) x h
 eqBool:=fun{A E s x y a b Q} hu p q h=>AZ hu p q prog w E Q h
 quiet:=fun x h=>EW (n:=6) x h
section
variable {Ky:Type}
open Classical in
noncomputable def sM (pr:List (Value×Ky)) (v:Value):Option Ky:=if h: ∃k,(v,k)∈pr then some h.choose else none
theorem vM{pr:List (Value×Ky)}(nv:(pr.map (·.1)).Nodup){v:Value}{k:Ky}(h:(v,k)∈pr):sM pr v=some k:=by
 have hx: ∃k,(v,k)∈pr:=⟨k,h⟩
 unfold sM
 rw [dif_pos hx]
 have h2:=hx.choose_spec
 generalize hx.choose=k' at h2
 obtain⟨i,hi,e1⟩:=aN.mp h
 obtain⟨j,hj,e2⟩:=aN.mp h2
 have:i=j:=by
  refine(mx (xs:=pr.map (·.1)) (h₀:=by rw [ae]; exact hi) (h₁:=by rw [ae]; exact hj) nv).mp ?_
  rw [aS,aS,e1,e2]
 subst this
 rw [e1]at e2
 exact congrArg some (qX.mp e2).2.symm
noncomputable def HI (lt:Ky->Ky->Bool) (pr:List (Value×Ky)) (x y:Kd):Bool:=match sM pr x.1,sM pr y.1 with
 | some a,some b=>lt a b
 | _,_=>false
structure oy(lt:Ky->Ky->Bool):Prop where
 tot: ∀x y,x≠y->lt x y=false->lt y x=true
 DI: ∀x y,lt x y=true->lt y x=false
 tr: ∀x y z,lt x y=true->lt y z=true->lt x z=true
def Mp(pr:List (Value×Ky))(x:Kd):Prop:= ∃k,(x.1,k)∈pr/\x.2=x.1
theorem vS{lt:Ky->Ky->Bool}{pr:List (Value×Ky)}(nv:(pr.map (·.1)).Nodup){u v:Value}{a b:Ky}(h:(u,a)∈pr)(h':(v,b)∈pr)(u2 v2:Value):HI lt pr (u,u2) (v,v2)=lt a b:=by
 unfold HI
 rw [vM nv h,vM nv h']
theorem Md{lt:Ky->Ky->Bool}(o:oy lt){pr:List (Value×Ky)}(nv:(pr.map (·.1)).Nodup)(nk:(pr.map (·.2)).Nodup):mH (Mp pr) (HI lt pr):=by
 refine⟨fun x y ⟨a,ha,ea⟩ ⟨b,hb,eb⟩ hne e=> ?_,fun x y e=> ?_,fun x y z e1 e2=> ?_⟩
 ·obtain⟨x1,x2⟩:=x
  obtain⟨y1,y2⟩:=y
  rw [vS nv ha hb]at e
  rw [vS nv hb ha]
  refine o.tot a b (fun z=>hne ?_) e
  obtain⟨i,hi,e1⟩:=aN.mp ha
  obtain⟨j,hj,e2⟩:=aN.mp hb
  have:i=j:=by
   refine(mx (xs:=pr.map (·.2)) (h₀:=by rw [ae]; exact hi) (h₁:=by rw [ae]; exact hj) nk).mp ?_
   rw [aS,aS,e1,e2]
   exact z
  subst this
  rw [e1]at e2
  have h1:x1=y1:=(qX.mp e2).1
  have ea:x2=x1:=ea
  have eb:y2=y1:=eb
  rw [ea,eb,h1]
 ·unfold HI at e ⊢
  cases h1:sM pr x.1 with
  | none=>rw [h1]at e; cases e
  | some a=>
   cases h2:sM pr y.1 with
   | none=>exact absurd e (by rw [h1,h2]; exact aA)
   | some b=>rw [h1,h2]at e; exact o.DI _ _ e
 ·unfold HI at e1 e2 ⊢
  cases h1:sM pr x.1 with
  | none=>rw [h1]at e1; cases e1
  | some a=>
   cases h2:sM pr y.1 with
   | none=>rw [h1,h2]at e1; cases e1
   | some b=>
    cases h3:sM pr z.1 with
    | none=>exact absurd e2 (by rw [h2,h3]; exact aA)
    | some c=>
     rw [h1,h2]at e1
     rw [h2,h3]at e2
     exact o.tr _ _ _ e1 e2
def oF(lt:Ky->Ky->Bool)(pr:List (Value×Ky))(out:List Value):Prop:= ∃q:List (Value×Ky),q.Perm pr/\q.map (·.1)=out/\q.Pairwise (fun a b=>lt a.2 b.2=true)
theorem BV{lt:Ky->Ky->Bool}{pr:List (Value×Ky)}(nv:(pr.map (·.1)).Nodup){l:List Kd}(hp:l.Perm (pr.map fun x=>(x.1,x.1)))(hs:k_ (HI lt pr) l):oF lt pr (l.map (·.2)):=by
 have key: ∀l:List Kd,(∀x∈l,Mp pr x)->k_ (HI lt pr) l-> ∃q:List (Value×Ky),q.map (fun x=>(x.1,x.1))=l/\(∀x∈q,x∈pr)/\q.Pairwise (fun a b=>lt a.2 b.2=true):=by
  intro l
  induction l with
  | nil=>intro _ _; exact⟨[],rfl,fun x hx=>absurd hx dj,fw⟩
  | cons x l ih=>
   intro h1 h2
   obtain⟨q,e,hm,hq⟩:=ih (fun y hy=>h1 y (.tail _ hy)) (bW.mp h2).2
   obtain⟨k,hk,ek⟩:=h1 x (.head _)
   refine⟨(x.1,k)::q, ?_,fun y hy=> ?_,bW.mpr ⟨fun y hy=> ?_,hq⟩⟩
   ·rw [bf,e]
    obtain⟨x1,x2⟩:=x
    have ek:x2=x1:=ek
    rw [ek]
   ·rcases aK.mp hy with rfl | hy
    ·exact hk
    ·exact hm y hy
   ·have:=(bW.mp h2).1 (y.1,y.1) (by rw [<-e]; exact a9.mpr ⟨y,hy,rfl⟩)
    have e2:=vS (lt:=lt) nv hk (hm y hy) x.2 y.1
    rw [<-e2]
    exact this
 obtain⟨q,e,hm,hq⟩:=key l (fun x hx=>by
  obtain⟨p,hp',rfl⟩:=a9.mp (hp.mem_iff.mp hx)
  exact⟨p.2,hp',rfl⟩) hs
 refine⟨q, ?_,by rw [<-e,dF]; rfl,hq⟩
 have h1:(q.map fun x=>(x.1,x.1)).Perm (pr.map fun x=>(x.1,x.1)):=by rw [e]; exact hp
 have h2:(q.map (·.1)).Perm (pr.map (·.1)):=by
  have:=h1.map (fun x:Value×Value=>x.1)
  rw [dF,dF]at this
  exact this
 have back: ∀l:List (Value×Ky),(∀x∈l,x∈pr)->(l.map (·.1)).filterMap (fun v=>(sM pr v).map fun k=>(v,k))=l:=by
  intro l
  induction l with
  | nil=>intro _; rfl
  | cons x l ih=>
   intro h
   rw [bf,kc,vM nv (show(x.1,x.2)∈pr from h x (.head _)),ih fun y hy=>h y (.tail _ hy)]
   rfl
 have:=h2.filterMap (fun v=>(sM pr v).map fun k=>(v,k))
 rw [back q hm,back pr fun x hx=>hx]at this
 exact this
end
section
variable {prog:aq}{w:World}{A:bh}{E:Value->ah->Prop}{s:ah}{Ky:Type}
theorem rV{lt:Ky->Ky->Bool}{κ:jL}{a:Addr}{pr:List (Value×Ky)}{vs:List Value}(evs:vs=pr.map (·.1))(o:oy lt)(nv:(pr.map (·.1)).Nodup)(nk:(pr.map (·.2)).Nodup){n:Nat}{P:ub->ah->Prop}(ho:s.heap.get? a=some (cL "list" vs.toArray n))(hl:vs.length<=sizeLine)
  (kd:2<=vs.length-> ∀(h':Heap) (Q:jL->ah->Prop),(∀b ob,b≠a->s.heap.get? b=some ob->h'.get? b=some ob)->Q κ {s with heap:=h'}->wpAny (model prog w) A (keyKind' vs.toArray) Q E {s with heap:=h'})
  (sy: ∀(h':Heap),(∀b ob,b≠a->s.heap.get? b=some ob->h'.get? b=some ob)-> ∀x∈pr, ∀y∈pr, ∀Q:Bool->ah->Prop,Q (lt x.2 y.2) {s with heap:=h'}->wpAny (model prog w) A (keyLt' κ x.1 y.1) Q (fun _ _=>False) {s with heap:=h'})
  (h: ∀(h':Heap) (out:List Value) (c:Nat),oF lt pr out->h'.get? a=some (cL "list" out.toArray c)->(∀b ob,b≠a->s.heap.get? b=some ob->h'.get? b=some ob)->P (.done (.ret .none)) {s with heap:=h'}):
  wpAny (model prog w) A (c6.«list.sort» ⟨[.ref a], []⟩) P E s:=by
 have s1:=bB s.heap a (df fun _=>(#[]:Array Value))
 obtain⟨e1,ho1⟩: ∃e1,(s.heap.update a (df fun _=>(#[]:Array Value))).get? a=some (cL "list" #[] e1):=⟨_,fm ho fun _=> #[]⟩
 rw [list_sort_plain]
 refine aa (listItems_at ho rfl ?_)
 refine aa (iA ho rfl ?_ (by rw [az]; exact hl) (bQ _))
 refine aa (seqEpoch_at ho1 rfl ?_)
 refine aa (wV ?_ (by show vs.length<=_; exact hl))
 refine aa (yR ?_ (bQ _))
 refine bG ?_
 have ho3:(((s.heap.update a (df fun _=>(#[]:Array Value))).push (cL "tuple" vs.toArray 0)).push (cL "list" #[] 0)).get? a=some (cL "list" #[] e1):=ag _ (ag _ ho1)
 have hk3: ∀b ob,b≠a->s.heap.get? b=some ob->(((s.heap.update a (df fun _=>(#[]:Array Value))).push (cL "tuple" vs.toArray 0)).push (cL "list" #[] 0)).get? b=some ob:=fun b ob hb e=>ag _ (ag _ ((s1.2 b hb).trans e))
 show wpAny (model prog w) A _ P E {s with heap:=((s.heap.update a (df fun _=>(#[]:Array Value))).push (cL "tuple" vs.toArray 0)).push (cL "list" #[] 0)}
 generalize ((s.heap.update a (df fun _=>(#[]:Array Value))).push (cL "tuple" vs.toArray 0)).push (cL "list" #[] 0)=H3 at ho3 hk3
 have lvs:vs.length=pr.length:=by rw [evs,ae]
 dsimp only
 have tail: ∀(out:List Value) (st:bZ) (R:ub->ah->Prop),out.length=vs.length->(arrOf st).map (·.2)=mY out->gY st=none->(∀(h':Heap) (c:Nat),h'.get? a=some (cL "list" out.toArray c)->(∀b ob,b≠a->s.heap.get? b=some ob->h'.get? b=some ob)->R (.done (.ret .none)) {s with heap:=h'})->
   wpAny (model prog w) A (do
    let touched:=(<-seqEpoch a) !=e1
    Builtin.List.listUpdate (.ref a) fun _=>(arrOf st).map (·.2)
    if let some e:=gY st then rule "list.sort.comparison-raised"; throw e
    if touched then rule "list.sort.modified"; raiseError "ValueError" "list modified during sort"
    ret .none) R E {s with heap:=H3}:=by
  intro out st R hp hout hf hR
  have hsz:(mY out).size=vs.length:=by rw [az,hp]
  rw [hout]
  have s2:=bB H3 a (df fun _=>mY out)
  obtain⟨c2,hc2⟩: ∃c2,(H3.update a (df fun _=>mY out)).get? a=some (cL "list" (mY out) c2):=⟨_,fm ho3 fun _=>mY out⟩
  refine aa (seqEpoch_at ho3 rfl ?_)
  refine aa (iA ho3 rfl ?_ (bQ _) (bu (mV hsz) (Nat.le_succ_of_le hl)))
  rw [hf]
  simp only [bne_self_eq_false,a_,if_false]
  exact af (hR _ c2 hc2 fun b ob hb e=>(s2.2 b hb).trans (hk3 b ob hb e))
 have zz:(vs.toArray.zip vs.toArray).toList=pr.map fun x=>(x.1,x.1):=by
  rw [Array.toList_zip]
  show vs.zip vs=_
  rw [evs,List.zip_map']
 by_cases h2:vs.length < 2
 ·have hn2:vs.toArray.size < 2:=by rw [az]; exact h2
  rw [if_pos hn2,if_pos hn2]
  refine aa (af ?_)
  refine aa ?_
  rw [StateT.run_pure]
  refine af ?_
  dsimp only
  refine tail vs _ P rfl ?_ rfl fun h' c h3 h4=>h h' vs c ⟨pr,dD _,evs.symm, ?_⟩ h3 h4
  ·show(vs.toArray.zip vs.toArray).map (·.2)=_
   apply mE.mp
   rw [Array.toList_map,Array.toList_zip]
   exact mF (ay _)
  ·match pr,lvs with
   | [],_=>exact fw
   | [q],_=>exact y7 _ _
   | _::_::_,z=>simp at z; omega
 ·have hn2: ¬vs.toArray.size < 2:=by rw [az]; exact h2
  rw [if_neg hn2,if_neg hn2]
  refine aa (kd (by omega) H3 _ hk3 ?_)
  have nd0:(pr.map fun x=>(x.1,x.1)).Nodup:=by
   have:(pr.map fun x=>(x.1,x.1))=(pr.map (·.1)).map fun v=>(v,v):=by rw [dF]; rfl
   rw [this]
   exact List.Pairwise.map _ (fun a b hab z=>hab (qX.mp z).1) nv
  refine aa (bN (EV (s:={s with heap:=H3}) (κ:=κ) (S:=Mp pr) (lt:=HI lt pr) (a0:=pr.map fun x=>(x.1,x.1)) (st:=SortSt.mk' κ (vs.toArray.zip vs.toArray) #[] 7 none)
   (Q:=fun _ st'=>gY st'=none/\(arrOf st').toList.Perm (pr.map fun x=>(x.1,x.1))/\k_ (HI lt pr) (arrOf st').toList)
   (Md o nv nk) ?says nd0 (fun x hx=> ?mem) rfl rfl rfl zz fun st' a1 a2 a3=>⟨a1,a2,a3⟩) ?_ fun _ _ e=>e)
  case says=>
   rintro⟨x1,x2⟩ ⟨y1,y2⟩ Q ⟨ka,ha,ea⟩ ⟨kb,hb,eb⟩ hQ
   rw [vS nv ha hb]at hQ
   exact sy H3 hk3 (x1,ka) ha (y1,kb) hb Q hQ
  case mem=>
   obtain⟨p,hp,rfl⟩:=a9.mp hx
   exact⟨p.2,hp,rfl⟩
  rintro⟨⟨⟩,st'⟩ s' ⟨rfl,hf,hp,hs⟩
  dsimp only
  have so:=BV nv hp hs
  have hlen:((arrOf st').toList.map (·.2)).length=vs.length:=by rw [ae,hp.length_eq,ae,lvs]
  refine tail _ st' P hlen ?_ hf fun h' c h3 h4=>h h' _ c so h3 h4
  apply mE.mp
  rw [Array.toList_map]
end
def pP{α:Type} [DecidableEq α](lt:α->α->Bool):List α->List α->Bool
 | a::as,b::bs=>if a=b then pP lt as bs else lt a b
 | [],_::_=>true
 | _, []=>false
section
variable {α:Type} [DecidableEq α]{lt:α->α->Bool}
theorem yB(o:oy lt): ∀(a b:List α),a≠b->pP lt a b=false->pP lt b a=true
 | [], [],h,_=>absurd rfl h
 | [],_::_,_,h=>by cases h
 | _::_, [],_,_=>rfl
 | a::as,b::bs,h,e=>by
  unfold pP at e ⊢
  by_cases hab:a=b
  ·rw [if_pos hab]at e
   rw [if_pos hab.symm]
   exact yB o as bs (fun z=>h (by rw [hab,z])) e
  ·rw [if_neg hab]at e
   rw [if_neg fun z=>hab z.symm]
   exact o.tot a b hab e
theorem yp(o:oy lt): ∀(a b:List α),pP lt a b=true->pP lt b a=false
 | [], [],h=>by cases h
 | [],_::_,_=>rfl
 | _::_, [],h=>by cases h
 | a::as,b::bs,e=>by
  unfold pP at e ⊢
  by_cases hab:a=b
  ·rw [if_pos hab]at e
   rw [if_pos hab.symm]
   exact yp o as bs e
  ·rw [if_neg hab]at e
   rw [if_neg fun z=>hab z.symm]
   exact o.DI a b e
theorem Af(o:oy lt): ∀(a b c:List α),pP lt a b=true->pP lt b c=true->pP lt a c=true
 | [],_,_::_,_,_=>rfl
 | _, [], [],_,h=>by cases h
 | _,_::_, [],_,h=>by cases h
 | _::_, [],_::_,h,_=>by cases h
 | a::as,b::bs,c::cs,h1,h2=>by
  unfold pP at h1 h2 ⊢
  by_cases hab:a=b
  ·subst hab
   rw [if_pos rfl]at h1
   by_cases hac:a=c
   ·rw [if_pos hac]at h2 ⊢
    exact Af o as bs cs h1 h2
   ·rw [if_neg hac]at h2 ⊢
    exact h2
  ·rw [if_neg hab]at h1
   by_cases hbc:b=c
   ·subst hbc
    rw [if_neg hab]
    exact h1
   ·rw [if_neg hbc]at h2
    have:=o.tr a b c h1 h2
    by_cases hac:a=c
    ·subst hac
     rw [o.DI a b h1]at h2
     cases h2
    ·rw [if_neg hac]
     exact this
theorem oy.lex(o:oy lt):oy (pP lt):=⟨yB o,yp o,Af o⟩
end
def ltI(a b:Int):Bool:=decide (a < b)
theorem yf:oy ltI:=⟨fun x y h e=>decide_eq_true (by have:=of_decide_eq_false e; omega),fun x y e=>decide_eq_false (by have:=of_decide_eq_true e; omega),fun x y z e1 e2=>decide_eq_true (by have:=of_decide_eq_true e1; have:=of_decide_eq_true e2; omega)⟩
abbrev xS:List Int->List Int->Bool:=pP ltI
abbrev lP:gP->gP->Bool:=pP xS
theorem BB:oy lP:=yf.lex.lex
def p0(a b:gP×Int):Bool:=if a.1=b.1 then ltI a.2 b.2 else lP a.1 b.1
theorem KC:oy p0:=by
 refine⟨fun x y h e=> ?_,fun x y e=> ?_,fun x y z e1 e2=> ?_⟩
 ·unfold p0 at e ⊢
  by_cases q:x.1=y.1
  ·rw [if_pos q]at e
   rw [if_pos q.symm]
   exact yf.tot _ _ (fun z=>h (Prod.ext q z)) e
  ·rw [if_neg q]at e
   rw [if_neg fun z=>q z.symm]
   exact BB.tot _ _ q e
 ·unfold p0 at e ⊢
  by_cases q:x.1=y.1
  ·rw [if_pos q]at e
   rw [if_pos q.symm]
   exact yf.DI _ _ e
  ·rw [if_neg q]at e
   rw [if_neg fun z=>q z.symm]
   exact BB.DI _ _ e
 ·obtain⟨a,i⟩:=x
  obtain⟨b,j⟩:=y
  obtain⟨c,k⟩:=z
  unfold p0 at e1 e2 ⊢
  dsimp only at e1 e2 ⊢
  by_cases hab:a=b
  ·subst hab
   rw [if_pos rfl]at e1
   by_cases hac:a=c
   ·rw [if_pos hac]at e2 ⊢
    exact yf.tr _ _ _ e1 e2
   ·rw [if_neg hac]at e2 ⊢
    exact e2
  ·rw [if_neg hab]at e1
   by_cases hbc:b=c
   ·subst hbc
    rw [if_neg hab]
    exact e1
   ·rw [if_neg hbc]at e2
    by_cases hac:a=c
    ·subst hac
     rw [BB.DI a b e1]at e2
     cases e2
    ·rw [if_neg hac]
     exact BB.tr a b c e1 e2
theorem xO: ∀a b:List Int,HT.lexLt a b=xS a b
 | [], []=>rfl
 | [],_::_=>rfl
 | _::_, []=>rfl
 | a::as,b::bs=>by
  rw [HT.rN]
  show _=if a=b then xS as bs else decide (a < b)
  rw [xO as bs]
section
variable {prog:aq}{w:World}{A:bh}{E:Value->ah->Prop}{s:ah}
theorem Ar{h:Heap}{r:List Int}{b:Addr}(x:T1 prog w h r b): ∃items:Array Value,IsTup h b items/\jb items.toList r:=by
 obtain⟨o,items,n,h1,h2,h3,h4⟩:=x
 refine⟨items,⟨o,h1,h2,n,h3⟩, ?_⟩
 generalize items.toList=l at h4
 induction h4 with
 | nil=>exact .nil
 | cons a t ih=>
  obtain⟨tk,rfl⟩:=lI a
  exact .cons _ tk ih
theorem Iq{x y:List Int}{a b:Addr}{Q:Value->ah->Prop}(hu:A.units < cLine)(p:T1 prog w s.heap x a)(q:T1 prog w s.heap y b)(h:Q (.bool (xS x y)) s):wpAny (model prog w) A (cC .Lt (.ref a) (.ref b)) Q E s:=by
 obtain⟨i1,t1,n1⟩:=Ar p
 obtain⟨i2,t2,n2⟩:=Ar q
 exact HT.zx t1 t2 n1 n2 hu (by rw [xO]; exact h)
theorem uo{l b:Addr}{items items2:Array Value}{n n2:Nat}{dd dd2:Option Addr}{sl sl2:Array (Option Value)}{x y:gP}:
  MeetsIn prog w (c6.«tuple.__lt__» ⟨[.ref l, .ref b], []⟩)
   (fun A R s=>A.units+2 < cLine/\s.heap.get? l=some {cls:= .type "tuple",dict:=dd,data:= .seq items n,slots:=sl}/\s.heap.get? b=some {cls:= .type "tuple",dict:=dd2,data:= .seq items2 n2,slots:=sl2}/\
    qK prog w s.heap x items.toList/\qK prog w s.heap y items2.toList/\R (.ok (.ret (.bool (lP x y)))) s):=
 .of_wp fun A R s h=>by
  obtain⟨hp,g,d,tk,os⟩:=s
  obtain⟨hu,hl,hb,hi,hj,h⟩:=h
  have f2:=iw
  have z1:items.size=x.length:=by rw [hi.len]; simp
  have z2:items2.size=y.length:=by rw [hj.len]; simp
  wp_walk using cj hl,cj hb,mz _ (fun rest b s'=>b.1=none/\s'=⟨hp,g,d,tk,os⟩/\ ∃(vs ws:List Value) (x' y':gP),rest=vs.zip ws/\
   qK prog w hp x' vs/\qK prog w hp y' ws/\x'.length+items2.size=y'.length+items.size/\R (.ok (.ret (.bool (lP x' y')))) ⟨hp,g,d,tk,os⟩) _
  case turn=>
   rintro⟨u,v⟩ rest b s' ⟨hb',rfl,vs,ws,x',y',hz,hv,hw,hlen,hR⟩
   cases hv with
   | nil=>rw [List.zip_nil_left]at hz; cases hz
   | @cons r a xs vs' ha hv'=>
    cases hw with
    | nil=>rw [List.zip_nil_right]at hz; cases hz
    | @cons r' c ys ws' hc hw'=>
     rw [qm]at hz
     injection hz with hyx hrest
     injection hyx with hy hx
     subst hy hx
     have hR':R (.ok (.ret (.bool (if r=r' then lP xs ys else xS r r')))) ⟨hp,g,d,tk,os⟩:=hR
     simp only [aH]at hlen
     refine aa (Al (A:=A.in1) (s:=⟨hp,g,d,tk,os⟩) (prog:=prog) (w:=w) (by show A.units+1+1 < cLine; omega) ha hc prog w _ _ ?_)
     by_cases e:r=r'
     ·rw [if_pos e]at hR'
      rw [decide_eq_true e]
      wp_walk
      exact⟨rfl,rfl,_,_,_,_,hrest,hv',hw',by omega,hR'⟩
     ·rw [if_neg e]at hR'
      rw [decide_eq_false e]
      have hri: ∀{E:Value->ah->Prop} {Q:Value->ah->Prop},Q (.bool (xS r r')) ⟨hp,g,d,tk,os⟩->wpAny (model prog w) A.in1 (richCompare .Lt (.ref a) (.ref c)) Q E ⟨hp,g,d,tk,os⟩:=fun q=>Iq (A:=A.in1) (s:=⟨hp,g,d,tk,os⟩) (show A.units+1 < cLine by omega) ha hc q
      wp_walk using hri
      exact⟨_,rfl,by simpa using hR'⟩
  case fin=>
   rintro⟨b1,b2⟩ s' ⟨hb',rfl,vs,ws,x',y',hz,hv,hw,hlen,hR⟩
   simp only at hb'
   subst hb'
   have he:lP x' y'=decide (items.size < items2.size):=by
    cases hv with
    | nil=>
     cases hw with
     | nil=>
      simp only [c7]at hlen
      exact(decide_eq_false (by omega)).symm
     | cons c hw=>
      simp only [c7,aH]at hlen
      exact(decide_eq_true (by omega)).symm
    | cons a hv=>
     cases hw with
     | nil=>
      simp only [c7,aH]at hlen
      exact(decide_eq_false (by omega)).symm
     | cons c hw=>
      rw [qm]at hz
      cases hz
   rw [he]at hR
   wp_walk
   exact⟨_,rfl,by simpa [Builtin.Tuple.tupleCompareSizes]using hR⟩
  case h=>
   exact⟨rfl,rfl,items.toList,items2.toList,x,y,rfl,hi,hj,by omega,h⟩
theorem KQ{x y:gP}{a b:Addr}{Q:Value->ah->Prop}(hu:A.units+2 < cLine)(p:T2 prog w s.heap x a)(q:T2 prog w s.heap y b)(h:Q (.bool (lP x y)) s):wpAny (model prog w) A (cC .Lt (.ref a) (.ref b)) Q E s:=by
 have ta:=p.ty
 have tb:=q.ty
 obtain⟨⟨c1,d1,e1,f1⟩,i1,n1,h1,h2,h3,h4⟩:=p
 obtain⟨⟨c2,d2,e2,f2⟩,i2,n2,k1,k2,k3,k4⟩:=q
 simp only at h2 h3 k2 k3
 subst h2 h3 k2 k3
 show wpAny (model prog w) A (richCompare .Lt (.ref a) (.ref b)) Q E s
 exact wpAny_richCompare_same_room ta tb A8 (call_meetsIn A8 ta PySem.F.entry_tuple_lt (PySem.F.args_tuple_lt_2 _ _) uo ⟨hu,h1,k1,h4,k4,show fD (lP x y)≠Value.notImplemented/\Q (.bool (lP x y)) s from⟨(fun z=>nomatch z),h⟩⟩) (by omega)
end
section
variable {prog:aq}{w:World}{A:bh}{E:Value->ah->Prop}{s:ah}
theorem uR{M:Model}{h:Heap}{b:Addr}{o:Obj}(e:h.get? b=some o)(c:o.cls= .type "tuple"):Looks M h (typeOf (.ref b)) (.type "tuple"):=fun A Q E s k q=>fv (T:="tuple") ⟨o,k _ _ e,c⟩ q
theorem EJ{M:Model}{h:Heap}{r:List Int}{b:Addr}(x:T1 prog w h r b):Looks M h (typeOf (.ref b)) (.type "tuple"):=let⟨_,_,_,h1,h2,_⟩:=x; uR h1 h2
theorem C3{M:Model}{h:Heap}{r:gP}{b:Addr}(x:T2 prog w h r b):Looks M h (typeOf (.ref b)) (.type "tuple"):=let⟨_,_,_,h1,h2,_⟩:=x; uR h1 h2
theorem xq{fin:Bool}{Q:Bool->ah->Prop}(hu:A.units+1 < cLine): ∀(x y:gP) (l l':List Value) (i:Nat),qK prog w s.heap x l->qK prog w s.heap y l'->x.length=y.length->fin=false->Q (lP x y) s->KatLex prog w A false fin Q (l.zip l') i s
 | [], [],_,_,i, .nil, .nil,_,hf,hq=>by subst hf; exact hq
 | [],_::_,_,_,_,_,_,hl,_,_=>by simp at hl
 | _::_, [],_,_,_,_,_,hl,_,_=>by simp at hl
 | r::x,r'::y,_,_,i, .cons a s1, .cons b s2,hl,hf,hq=>by
  have hq:Q (if r=r' then lP x y else xS r r') s:=hq
  refine kat_cons (Al hu a b prog w _ _ ?_)
  by_cases e:r=r'
  ·rw [if_pos e]at hq
   rw [decide_eq_true e]
   exact kat_yes (xq hu x y _ _ (i+1) s1 s2 (by simpa using hl) hf hq)
  ·rw [if_neg e]at hq
   rw [decide_eq_false e]
   refine kat_no ?_
   rw [eX]
   exact kat_one _ _ (Iq (by omega) a b hq)
theorem Jm{x y:gP}{a b:Addr}{Q:Bool->ah->Prop}(hu:A.units+1 < cLine)(p:T2 prog w s.heap x a)(q:T2 prog w s.heap y b)(hl:x.length=y.length)(h:Q (lP x y) s):wpAny (model prog w) A (keyLt' (tuples' false) (.ref a) (.ref b)) Q (fun _ _=>False) s:=by
 obtain⟨o,i1,n,h1,_,h3,h4⟩:=p
 obtain⟨o',i2,n',k1,_,k3,k4⟩:=q
 have l1:i1.size=x.length:=by rw [h4.len,aj]
 have l2:i2.size=y.length:=by rw [k4.len,aj]
 exact kat_lt h1 h3 k1 k3 (xq hu x y _ _ 0 h4 k4 hl (decide_eq_false (by rw [l1,l2,hl]; exact dS _)) h)
def T3(prog:aq)(w:World)(h:Heap)(k:gP×Int)(a:Addr):Prop:= ∃o n b t,h.get? a=some o/\o.cls= .type "tuple"/\o.data= .seq #[.ref b, .int k.2 t] n/\T2 prog w h k.1 b
theorem T3.keep{h h':Heap}{k:gP×Int}{a:Addr}(x:T3 prog w h k a)(q: ∀c o,(o.cls= .type "tuple"/\ ∃items n,o.data= .seq items n)->h.get? c=some o->h'.get? c=some o):T3 prog w h' k a:=
 let⟨o,n,b,t,h1,h2,h3,h4⟩:=x; ⟨o,n,b,t,q a o ⟨h2,_,_,h3⟩ h1,h2,h3,h4.keep q⟩
theorem JF{x y:gP×Int}{a b:Addr}{Q:Bool->ah->Prop}(hu:A.units+2 < cLine)(p:T3 prog w s.heap x a)(q:T3 prog w s.heap y b)(h:Q (p0 x y) s):wpAny (model prog w) A (keyLt' (tuples' false) (.ref a) (.ref b)) Q (fun _ _=>False) s:=by
 obtain⟨o,n,c,t,h1,_,h3,h4⟩:=p
 obtain⟨o',n',c',t',k1,_,k3,k4⟩:=q
 refine kat_lt h1 h3 k1 k3 ?_
 show KatLex prog w A false _ Q [(.ref c, .ref c'),(.int x.2 t, .int y.2 t')] 0 s
 refine kat_cons (AZ hu h4 k4 prog w _ _ ?_)
 unfold p0 at h
 by_cases e:x.1=y.1
 ·rw [if_pos e]at h
  rw [decide_eq_true e]
  refine kat_yes (kat_cons (Ia ?_))
  by_cases e2:x.2=y.2
  ·rw [beq_iff_eq.mpr e2]
   refine kat_yes (kat_nil ?_)
   have z:ltI x.2 y.2=false:=decide_eq_false (by omega)
   rw [z]at h
   exact h
  ·rw [beq_eq_false_iff_ne.mpr e2]
   refine kat_no ?_
   rw [eX]
   exact kat_one _ _ (lt_int h)
 ·rw [if_neg e]at h
  rw [decide_eq_false e]
  refine kat_no ?_
  rw [eX]
  exact kat_one _ _ (KQ (by omega) h4 k4 h)
theorem Il{h:Heap}: ∀{pr:List (Value×gP)},(∀q∈pr, ∃b,q.1=ak b/\T2 prog w h q.2 b/\q.2≠ [])-> ∃fs,KatTups h (pr.map (·.1)) fs/\fs.length=pr.length/\ ∀v∈fs, ∃r b,v=ak b/\T1 prog w h r b
 | [],_=>⟨[],trivial,rfl,fun v hv=>by cases hv⟩
 | q::pr,x=>by
  obtain⟨b,e,⟨o,items,n,h1,h2,h3,h4⟩,hne⟩:=x q (.head _)
  obtain⟨fs,a1,a2,a3⟩:=Il (pr:=pr) fun u hu=>x u (.tail _ hu)
  obtain⟨v,rs⟩:=q
  obtain⟨items⟩:=items
  cases h4 with
  | nil=>exact absurd rfl hne
  | @cons r c rs' vs' hr t=>
   refine⟨.ref c::fs,⟨⟨b,o,_,n,e,h1,h2,h3,rfl⟩,a1⟩,by simp [a2],fun u hu=> ?_⟩
   rcases aK.mp hu with rfl | hu
   ·exact⟨r,c,rfl,hr⟩
   ·exact a3 u hu
theorem IJ{h:Heap}: ∀{pr:List (Value×(gP×Int))},(∀q∈pr, ∃b,q.1=ak b/\T3 prog w h q.2 b)-> ∃fs,KatTups h (pr.map (·.1)) fs/\fs.length=pr.length/\ ∀v∈fs, ∃r b,v=ak b/\T2 prog w h r b
 | [],_=>⟨[],trivial,rfl,fun v hv=>by cases hv⟩
 | q::pr,x=>by
  obtain⟨b,e,o,n,c,t,h1,h2,h3,h4⟩:=x q (.head _)
  obtain⟨fs,a1,a2,a3⟩:=IJ (pr:=pr) fun u hu=>x u (.tail _ hu)
  refine⟨.ref c::fs,⟨⟨b,o,_,n,e,h1,h2,h3,rfl⟩,a1⟩,by simp [a2],fun u hu=> ?_⟩
  rcases aK.mp hu with rfl | hu
  ·exact⟨_,c,rfl,h4⟩
  ·exact a3 u hu
theorem GF{a:Addr}{pr:List (Value×gP)}{m n:Nat}{P:ub->ah->Prop}(hu:A.units+1 < cLine)(ho:s.heap.get? a=some (cL "list" (pr.map (·.1)).toArray n))(hl:pr.length<=sizeLine)(y: ∀q∈pr, ∃b,q.1=ak b/\T2 prog w s.heap q.2 b)(hm: ∀q∈pr,q.2.length=m)(m0:0 < m)(nk:(pr.map (·.2)).Nodup)
  (h: ∀(h':Heap) (out:List Value) (c:Nat),oF lP pr out->h'.get? a=some (cL "list" out.toArray c)->(∀b ob,b≠a->s.heap.get? b=some ob->h'.get? b=some ob)->P (.done (.ret .none)) {s with heap:=h'}):
  wpAny (model prog w) A (c6.«list.sort» ⟨[.ref a], []⟩) P E s:=by
 have nv:(pr.map (·.1)).Nodup:=by
  refine b8.mpr fun i j hi hj hij z=> ?_
  rw [ae]at hi hj
  rw [aS,aS]at z
  obtain⟨b,e1,t1⟩:=y _ (aR hi)
  obtain⟨b',e2,t2⟩:=y _ (aR hj)
  rw [e1,e2]at z
  cases z
  have:=(b8.mp nk) i j (by rw [ae]; exact hi) (by rw [ae]; exact hj) hij
  rw [aS,aS]at this
  exact this (t1.inj t2)
 have kp: ∀h':Heap,(∀b ob,b≠a->s.heap.get? b=some ob->h'.get? b=some ob)-> ∀q∈pr, ∃b,q.1=ak b/\T2 prog w h' q.2 b:=fun h' k q hq=>by
  obtain⟨b,e,t⟩:=y q hq
  exact⟨b,e,t.keep fun c o hc z=>k c o (by rintro rfl; rw [ho]at z; cases z; exact absurd (show cq "list"=cq "tuple" from hc.1) (by decide)) z⟩
 have ne: ∀q∈pr,q.2≠ []:=fun q hq z=>by have:=hm q hq; rw [z]at this; simp at this; omega
 refine rV (lt:=lP) (κ:=tuples' false) rfl BB nv nk ho (by rw [ae]; exact hl) (fun h2 h' Q k q=> ?_) (fun h' k x hx z hz Q q=> ?_) h
 ·obtain⟨fs,a1,a2,a3⟩:=Il (prog:=prog) (w:=w) (h:=h') (pr:=pr) fun q hq=>let⟨b,e,t⟩:=kp h' k q hq; ⟨b,e,t,ne q hq⟩
  rw [ae]at h2
  exact kat_kind (s:={s with heap:=h'}) (T:= .type "tuple") a1 (by omega) (fun v hv=>by obtain⟨r,b,rfl,t⟩:=a3 v hv; exact EJ t) (by decide) q
 ·obtain⟨b,e1,t1⟩:=kp h' k x hx
  obtain⟨c,e2,t2⟩:=kp h' k z hz
  rw [e1,e2]
  exact Jm (s:={s with heap:=h'}) hu t1 t2 (by rw [hm x hx,hm z hz]) q
theorem Gw{a:Addr}{pr:List (Value×(gP×Int))}{n:Nat}{P:ub->ah->Prop}(hu:A.units+2 < cLine)(ho:s.heap.get? a=some (cL "list" (pr.map (·.1)).toArray n))(hl:pr.length<=sizeLine)(y: ∀q∈pr, ∃b,q.1=ak b/\T3 prog w s.heap q.2 b)(nk:(pr.map (·.2)).Nodup)
  (h: ∀(h':Heap) (out:List Value) (c:Nat),oF p0 pr out->h'.get? a=some (cL "list" out.toArray c)->(∀b ob,b≠a->s.heap.get? b=some ob->h'.get? b=some ob)->P (.done (.ret .none)) {s with heap:=h'}):
  wpAny (model prog w) A (c6.«list.sort» ⟨[.ref a], []⟩) P E s:=by
 have nv:(pr.map (·.1)).Nodup:=by
  refine b8.mpr fun i j hi hj hij z=> ?_
  rw [ae]at hi hj
  rw [aS,aS]at z
  obtain⟨b,e1,o1,n1,c1,t1,p1,p2,p3,p4⟩:=y _ (aR hi)
  obtain⟨b',e2,o2,n2,c2,t2,q1,q2,q3,q4⟩:=y _ (aR hj)
  rw [e1,e2]at z
  cases z
  rw [p1]at q1
  cases q1
  rw [p3]at q3
  simp only [Data.seq.injEq,Array.mk.injEq,List.cons.injEq,Value.ref.injEq,Value.int.injEq,and_true]at q3
  obtain⟨⟨rfl,k2,_⟩,_⟩:=q3
  have:=(b8.mp nk) i j (by rw [ae]; exact hi) (by rw [ae]; exact hj) hij
  rw [aS,aS]at this
  exact this (Prod.ext (p4.inj q4) k2)
 have kp: ∀h':Heap,(∀b ob,b≠a->s.heap.get? b=some ob->h'.get? b=some ob)-> ∀q∈pr, ∃b,q.1=ak b/\T3 prog w h' q.2 b:=fun h' k q hq=>by
  obtain⟨b,e,t⟩:=y q hq
  exact⟨b,e,t.keep fun c o hc z=>k c o (by rintro rfl; rw [ho]at z; cases z; exact absurd (show cq "list"=cq "tuple" from hc.1) (by decide)) z⟩
 refine rV (lt:=p0) (κ:=tuples' false) rfl KC nv nk ho (by rw [ae]; exact hl) (fun h2 h' Q k q=> ?_) (fun h' k x hx z hz Q q=> ?_) h
 ·obtain⟨fs,a1,a2,a3⟩:=IJ (prog:=prog) (w:=w) (h:=h') (pr:=pr) (kp h' k)
  rw [ae]at h2
  exact kat_kind (s:={s with heap:=h'}) (T:= .type "tuple") a1 (by omega) (fun v hv=>by obtain⟨r,b,rfl,t⟩:=a3 v hv; exact C3 t) (by decide) q
 ·obtain⟨b,e1,t1⟩:=kp h' k x hx
  obtain⟨c,e2,t2⟩:=kp h' k z hz
  rw [e1,e2]
  exact JF (s:={s with heap:=h'}) hu t1 t2 q
end
abbrev pI:List Int->List Int->Bool:=xS
theorem uP(a b:Int)(x y:List Int):pI (a::x) (b::y)=if a=b then pI x y else decide (a < b):=rfl
theorem Dh{a b:List Int}(h:a≠b)(e:pI a b=false):pI b a=true:=yf.lex.tot a b h e
theorem Dd{a b:List Int}(e:pI a b=true):pI b a=false:=yf.lex.DI a b e
theorem Ax{a b c:List Int}(e:pI a b=true)(e':pI b c=true):pI a c=true:=yf.lex.tr a b c e e'
abbrev yH(pr:List (Value×List Int))(out:List Value):Prop:=oF pI pr out
theorem yH.perm{pr pr':List (Value×List Int)}{out:List Value}(h:yH pr' out)(hp:pr'.Perm pr):yH pr out:=let⟨q,a,b,c⟩:=h; ⟨q,a.trans hp,b,c⟩
theorem nJ{α β:Type}{f:α->β}: ∀{r:List α} {l:List β},l.Perm (r.map f)-> ∃l':List α,l'.Perm r/\l'.map f=l
 | [],l,h=>⟨[],dD _,by rw [qS]at h; rw [qS,h.eq_nil]⟩
 | x::r,l,h=>by
  have hm:f x∈l:=h.mem_iff.mpr (by simp)
  obtain⟨s,t,rfl⟩:=List.append_of_mem hm
  have h2:(s ++ t).Perm (r.map f):=by
   have:=Ic.symm.trans h
   rw [bf]at this
   exact this.cons_inv
  obtain⟨l',h3,h4⟩:=nJ h2
  refine⟨l'.take s.length ++ x::l'.drop s.length, ?_, ?_⟩
  ·refine Ic.trans ?_
   rw [aU]
   exact h3.cons x
  ·rw [bo,bf,List.map_take,List.map_drop,h4]
   simp
section
variable {prog:aq}{w:World}{A:bh}{E:Value->ah->Prop}{s:ah}
theorem K9{p q:Int}{t u:Tok}{b:Bool}{Q:Bool->ah->Prop}(h:Q (decide (p < q)) s):wpAny (model prog w) A (oneLt' b (.int p t) (.int q u)) Q (fun _ _=>False) s:=by
 cases b with
 | true=>exact oneLt_int h
 | false=>exact kat_one _ _ (lt_int h)
theorem xE{k:Int}{v:Value}(h:(fG prog w).is k v=true): ∃t,v=gD k t:=lI h
theorem EE{b fin:Bool}{Q:Bool->ah->Prop}: ∀(ks ks':List Int) (l l':List Value) (i:Nat),kW (fG prog w) ks l->kW (fG prog w) ks' l'->(ks.length=ks'.length)->fin=false->Q (pI ks ks') s->KatLex prog w A b fin Q (l.zip l') i s
 | [], [],l,l',i,h1,h2,_,hf,hq=>by
  cases h1
  cases h2
  subst hf
  exact hq
 | [],_::_,_,_,_,_,_,hl,_,_=>by simp at hl
 | _::_, [],_,_,_,_,_,hl,_,_=>by simp at hl
 | k::ks,k'::ks',l,l',i,h1,h2,hl,hf,hq=>by
  cases h1 with
  | cons a1 r1=>
   cases h2 with
   | cons a2 r2=>
    obtain⟨t,rfl⟩:=xE a1
    obtain⟨u,rfl⟩:=xE a2
    refine kat_cons (Ia ?_)
    refine kat_go (fun e=>kat_yes (EE ks ks' _ _ (i+1) r1 r2 (by simpa using hl) hf ?_)) fun e=>kat_no (K9 ?_)
    ·rw [uP,if_pos (of_decide_eq_true e)]at hq
     exact hq
    ·rw [uP,if_neg (of_decide_eq_false e)]at hq
     exact hq
def Kj(prog:aq)(w:World)(h:Heap)(pr:List (Value×List Int)):Prop:= ∀q∈pr, ∃b,q.1=ak b/\TK prog w h q.2 b/\q.2.length=2
theorem Kj.kat{h:Heap}: ∀{pr:List (Value×List Int)},Kj prog w h pr-> ∃fs,KatTups h (pr.map (·.1)) fs/\fs.length=pr.length/\ ∀v∈fs, ∃i t,v=gD i t
 | [],_=>⟨[],trivial,rfl,fun v hv=>by cases hv⟩
 | q::pr,x=>by
  obtain⟨b,e,⟨o,items,n,ho,hc,hd,hi⟩,hne⟩:=x q (.head _)
  obtain⟨fs,h1,h2,h3⟩:=Kj.kat (pr:=pr) fun u hu=>x u (.tail _ hu)
  have hin:=vN hi
  have hlen:=hi.length
  obtain⟨items⟩:=items
  cases items with
  | nil=>rw [hne]at hlen; cases hlen
  | cons f r=>
   refine⟨f::fs,⟨⟨b,o,_,n,e,ho,hc,hd,rfl⟩,h1⟩,by simp [h2],fun u hu=> ?_⟩
   rcases aK.mp hu with rfl | hu
   ·exact hin _ (.head _)
   ·exact h3 u hu
theorem Dw{a:Addr}{pr:List (Value×List Int)}{n:Nat}{P:ub->ah->Prop}(ho:s.heap.get? a=some (cL "list" (pr.map (·.1)).toArray n))(hl:pr.length<=sizeLine)(y:Kj prog w s.heap pr)(nk:(pr.map (·.2)).Nodup)
  (h: ∀(h':Heap) (out:List Value) (c:Nat),yH pr out->h'.get? a=some (cL "list" out.toArray c)->(∀b ob,b≠a->s.heap.get? b=some ob->h'.get? b=some ob)->P (.done (.ret .none)) {s with heap:=h'}):
  wpAny (model prog w) A (c6.«list.sort» ⟨[.ref a], []⟩) P E s:=by
 have nv:(pr.map (·.1)).Nodup:=by
  refine b8.mpr fun i j hi hj hij z=> ?_
  rw [ae]at hi hj
  rw [aS,aS]at z
  obtain⟨b,e1,t1,_⟩:=y _ (aR hi)
  obtain⟨b',e2,t2,_⟩:=y _ (aR hj)
  rw [e1,e2]at z
  cases z
  have:=(b8.mp nk) i j (by rw [ae]; exact hi) (by rw [ae]; exact hj) hij
  rw [aS,aS]at this
  exact this (oZ t1 t2)
 have kp: ∀h':Heap,(∀b ob,b≠a->s.heap.get? b=some ob->h'.get? b=some ob)->Kj prog w h' pr:=fun h' k q hq=>by
  obtain⟨b,e,t,l⟩:=y q hq
  have hb:b≠a:=by
   rintro rfl
   obtain⟨o,_,_,z,hc,_⟩:=t
   rw [ho]at z
   cases z
   exact absurd (show cq "list"=cq "tuple" from hc) (by decide)
  exact⟨b,e,t.keep fun o z=>k b o hb z,l⟩
 refine rV (lt:=pI) (κ:=tuples' true) rfl yf.lex nv nk ho (by rw [ae]; exact hl) (fun h2 h' Q k q=> ?_) (fun h' k x hx z hz Q q=> ?_) h
 ·obtain⟨fs,a1,a2,a3⟩:=(kp h' k).kat
  rw [ae]at h2
  exact kat_kind (s:={s with heap:=h'}) (T:= .type "int") a1 (by omega) (fun v hv=>by obtain⟨i,t,rfl⟩:=a3 v hv; exact .now) (by decide) q
 ·obtain⟨b,e1,⟨o,items,n,ho,hc,hd,hit⟩,hl1⟩:=kp h' k x hx
  obtain⟨c,e2,⟨o',items',n',ho',hc',hd',hit'⟩,hl2⟩:=kp h' k z hz
  rw [e1,e2]
  have z1:=hit.length
  have z2:=hit'.length
  refine kat_lt (s:={s with heap:=h'}) ho hd ho' hd' (EE _ _ _ _ 0 hit hit' (by rw [hl1,hl2]) (decide_eq_false ?_) q)
  rw [aj]at z1 z2
  omega
theorem x9{a:Addr}{o:Obj}{es:Array (Int×Value)}{ep:Nat}{t:cH}{Q:Value->ah->Prop}(hh:A.handled=none)(S:PF (!qC w) o es ep t)(hg:s.heap.get? a=some o)(pr:List (Value×List Int))(hpr:pr.map (·.1)=es.toList.map (·.2))(y:Kj prog w s.heap pr)(nd:(pr.map (·.2)).Nodup)
  (h: ∀(h':Heap) (tk D:Nat) (out:List Value) (c:Nat),s.heap.objs.size<=D->yH pr out->h'.get? D=some (cL "list" out.toArray c)->(∀b ob,s.heap.get? b=some ob->h'.get? b=some ob)->Q (.ref D) {s with heap:=h',toks:=tk}):
  wpAny (model prog w) A (call (.builtin "sorted") [.ref a]) Q E s:=by
 refine w9 kind_sorted plain_sorted entry_sorted (args_sorted1 _) ?_
 unfold c6.«sorted»
 refine aa (m:=checkCount "sorted" 1 1 _) (af ?_)
 refine aa (yq (by simpa using hh) S hg fun h1 tk vs hsz hk hp=> ?_)
 have hlen:vs.length<=20:=by rw [hp.length_eq,ae,aj]; have:=S.lu; omega
 obtain⟨pr',hpp,hpm⟩:=nJ (f:=fun q:Value×List Int=>q.1) (hpr▸hp)
 have nd':(pr'.map (·.2)).Nodup:=(hpp.map _).symm.nodup nd
 refine aa (yR ?_ (by rw [eO]; omega))
 have hoL:(h1.push (cL "list" vs.toArray 0)).get? h1.objs.size=some (cL "list" vs.toArray 0):=aw _ rfl
 have hk2: ∀b ob,s.heap.get? b=some ob->(h1.push (cL "list" vs.toArray 0)).get? b=some ob:=fun b ob e=>ag _ (hk b ob e)
 have ltb: ∀b ob,s.heap.get? b=some ob->b≠h1.objs.size:=fun b ob e=>aE (Nat.lt_trans (au e) hsz)
 show wpAny _ _ _ _ _ {s with heap:=h1.push (cL "list" vs.toArray 0),toks:=tk}
 refine aa (bG (bI slot_list_sort ⟨_,hoL,rfl⟩ IV ?body (args_list_sort _)))
 case body=>
  refine Dw (s:={s with heap:=h1.push (cL "list" vs.toArray 0),toks:=tk}) (pr:=pr') (by show(h1.push (cL "list" vs.toArray 0)).get? h1.objs.size=_; rw [hoL, <-hpm]) (by have:=congrArg jI hpm; rw [ae]at this; rw [eO]; omega) (fun q hq=> ?_) nd' fun h' out c hp2 hg2 hk3=> ?_
  ·obtain⟨b,e,hkk,hne⟩:=y q (hpp.mem_iff.mp hq)
   exact⟨b,e,hkk.keep fun ob z=>hk2 b ob z,hne⟩
  ·exact⟨_,rfl,af ⟨_,rfl,h h' tk h1.objs.size out c (i9 hsz) (hp2.perm hpp) hg2 fun b ob e=>hk3 b ob (ltb b ob e) (hk2 b ob e)⟩⟩
end
end Z
namespace Z
open PySem PySem.Spec PyProof.Rows L2
abbrev vp(a b:Int×Int):Bool:=pI (wY a) (wY b)
def s_(p:Int×Int):List (Int×Int)->List (Int×Int)
 | []=> [p]
 | q::r=>if vp p q then p::q::r else if p=q then q::r else q::s_ p r
def nU(ps:List (Int×Int)):List (Int×Int):=ps.foldr s_ []
theorem sg(p x:Int×Int): ∀l,x∈s_ p l↔x=p\/x∈l
 | []=>by simp [s_]
 | q::r=>by
  unfold s_
  split
  ·simp
  ·split
   ·rename_i e
    subst e
    simp
   ·rw [aK,sg p x r,aK]
    constructor
    ·rintro(h | h | h)
     ·exact .inr (.inl h)
     ·exact .inl h
     ·exact .inr (.inr h)
    ·rintro(h | h | h)
     ·exact .inr (.inl h)
     ·exact .inl h
     ·exact .inr (.inr h)
theorem rW(x:Int×Int): ∀ps,x∈nU ps↔x∈ps
 | []=>by simp [nU]
 | p::ps=>by
  show x∈s_ p (nU ps)↔_
  rw [sg,rW x ps,aK]
theorem AW{a b:Int×Int}(h:wY a=wY b):a=b:=by
 unfold wY at h
 injection h with h1 h2
 injection h2 with h2 _
 exact Prod.ext h1 h2
theorem Am(p:Int×Int): ∀l:List (Int×Int),l.Pairwise (fun a b=>vp a b=true)->(s_ p l).Pairwise (fun a b=>vp a b=true)
 | [],_=>y7 _ _
 | q::r,h=>by
  unfold s_
  have h1:=bW.mp h
  split
  ·rename_i e
   refine bW.mpr ⟨fun x hx=> ?_,h⟩
   rcases aK.mp hx with rfl | hx
   ·exact e
   ·exact Ax e (h1.1 x hx)
  ·rename_i e
   split
   ·exact h
   ·rename_i ne
    refine bW.mpr ⟨fun x hx=> ?_,Am p r h1.2⟩
    rcases(sg p x r).mp hx with rfl | hx
    ·exact Dh (fun z=>ne (AW z)) (Bool.eq_false_iff.mpr e)
    ·exact h1.1 x hx
theorem Ak: ∀ps:List (Int×Int),(nU ps).Pairwise (fun a b=>vp a b=true)
 | []=>fw
 | p::ps=>Am p _ (Ak ps)
theorem pw_uniq: ∀{a b:List (Int×Int)},a.Pairwise (fun a b=>vp a b=true)->b.Pairwise (fun a b=>vp a b=true)->(∀x,x∈a↔x∈b)->a=b
 | [], [],_,_,_=>rfl
 | [],y::_,_,_,h=>by have:=(h y).mpr bT; cases this
 | x::_, [],_,_,h=>by have:=(h x).mp bT; cases this
 | x::a,y::b,ha,hb,h=>by
  have a1:=bW.mp ha
  have b1:=bW.mp hb
  have irr: ∀z:Int×Int,vp z z=true->False:=fun z hz=>by have:=Dd hz; rw [show pI (wY z) (wY z)=true from hz]at this; cases this
  have exy:x=y:=by
   rcases aK.mp ((h x).mp bT)with e | hx
   ·exact e
   ·rcases aK.mp ((h y).mpr bT)with e | hy
    ·exact e.symm
    ·exact(irr x (Ax (a1.1 y hy) (b1.1 x hx))).elim
  subst exy
  rw [pw_uniq a1.2 b1.2 fun z=> ?_]
  constructor
  ·intro hz
   rcases aK.mp ((h z).mp (cb _ hz))with e | hz'
   ·subst e; exact(irr z (a1.1 z hz)).elim
   ·exact hz'
  ·intro hz
   rcases aK.mp ((h z).mpr (cb _ hz))with e | hz'
   ·subst e; exact(irr z (b1.1 z hz)).elim
   ·exact hz'
theorem B8{ps qs:List (Int×Int)}(h: ∀x,x∈qs↔x∈ps)(hp:qs.Pairwise (fun a b=>vp a b=true)):qs=nU ps:=pw_uniq hp (Ak ps) fun x=>(h x).trans (rW x ps).symm
theorem Ef(ps:List (Int×Int)):(nU ps).length<=ps.length:=by
 have: ∀(p:Int×Int) l,(s_ p l).length<=l.length+1:=fun p l=>by
  induction l with
  | nil=>exact ay _
  | cons q r ih=>
   unfold s_
   split
   ·simp
   ·split
    ·simp
    ·simp; omega
 induction ps with
 | nil=>exact ay _
 | cons p ps ih=>
  have:=this p (nU ps)
  show(s_ p (nU ps)).length<=_
  rw [aH]
  omega
def Fw(w:World)(l:Addr)(n:Nat)(val:Nat->Int×Int)(T:Nat->Addr):HO:= .ext fun h=> ∃o es ep t, ∃pr:List (Value×List Int),h.get? l=some o/\PF (!qC w) o es ep t/\pr.map (·.1)=es.toList.map (·.2)/\(pr.map (·.2)).Nodup/\
 (∀x∈pr, ∃j,j < n/\x.1=ak (T j)/\x.2=wY (val j))/\ ∀j,j < n-> ∃x∈pr,x.2=wY (val j)
section
variable {X:Cx}{ρ:eT}{e:Expr}{pos p p2 p3 p4 p5:Pos}
theorem Bo(hc:X.calm=true)(hu:X.A.units+16 < cLine):gK X (.type "set") (fun xs H Q=> ∃(q:Addr) (M:MP) (ps:List (Int×Int)),xs= [.ref q]/\pj X.K M H (.lst (ps.map pairD)) (.ref q)/\ps.length<=4/\
  ∀l T,H l=none->(∀j p,ps[j]? =some p->jR X.K H (T j) (sF p))->Q (.ref l) (upd H l (Fw X.w l ps.length (fun j=>ps.getD j (0,0)) T))):=by
 intro pins s σ H xs us Q I r ⟨q,M,ps,e,hq,hl,k⟩
 subst e
 obtain⟨u,rfl,rx⟩:=vals1 r
 cases rx
 obtain⟨q',ys,eq,sq,dn⟩:=hq
 cases eq
 obtain⟨T,hT⟩:=pairs_at dn
 obtain⟨its,r',pl,hz⟩:=I.list sq
 have hlen:=r'.length
 have hdl:=dn.len
 rw [ae]at hdl
 have get: ∀j,j < ps.length->ps[j]? =some (ps.getD j (0,0)):=fun j h=>by rw [aG,ai h]; rfl
 have tk: ∀j,j < ps.length->TK X.prog X.w s.heap (wY (ps.getD j (0,0))) (T j):=fun j h=>Iu I (hT j _ (get j h)).2
 refine Fo (n:=ps.length) (val:=fun j=>wY (ps.getD j (0,0))) (T:=T) (I.ok.hd hc) hu pl.isList (by rw [az]; omega) hl (fun i hi=> ?_) tk fun h' tkk hS hk=> ?_
 ·obtain⟨h1,_⟩:=hT i _ (get i hi)
  obtain⟨u,hu',ru⟩:=r'.get h1
  rw [show u=ak (T i)from ru]at hu'
  simpa using hu'
 ·obtain⟨o,es,ep,t,S,q1,q2,q3⟩:=hS
  obtain⟨kk,k1,k2,k3⟩:=S.nd
  have le:(es.toList.map (·.2)).length=kk.length:=by rw [ae,aj,k1]
  have key: ∀x∈(es.toList.map (·.2)).zip kk, ∃j,j < ps.length/\x.1=ak (T j)/\x.2=wY (ps.getD j (0,0)):=fun x hx=>by
   obtain⟨i,hi,e1⟩:=fH hx
   have hi2:i < kk.length:=by rw [b9]at hi; omega
   have hk2:kk[i]? =some kk[i]:=ai hi2
   obtain⟨b,e2,e3⟩:=k3 i _ hk2
   obtain⟨j,hj,e4⟩:=q2 _ (by simpa using A9 e2)
   have eb:b=T j:=by injection e4 with _ z; injection z
   subst eb
   have ek:kk[i]=wY (ps.getD j (0,0)):=oZ e3 ((tk j hj).keep fun o z=>hk _ o (au z) z)
   rw [fX]at e1
   have ev:(es.toList.map (·.2))[i]'(by omega)=ak (T j):=by
    have:es.toList[i]? =some (lH X.prog X.w kk[i],ak (T j)):=by rw [bp]; exact e2
    rw [aS,(aD.mp this).2]
   refine⟨j,hj, ?_, ?_⟩
   ·rw [<-e1]; exact ev
   ·rw [<-e1]; exact ek
  refine⟨.ref s.heap.objs.size,_,I.laid (t':=tkk) (fun b o e=>hk b o (au e) e) (ay _) (o:=Fw X.w s.heap.objs.size ps.length (fun j=>ps.getD j (0,0)) T) ⟨⟨o,es,ep,t,(es.toList.map (·.2)).zip kk,S.get,S.pf,List.map_fst_zip (mV le), ?_,key,fun j hj=> ?_⟩,⟨o,S.get⟩,fun h1 h2 ⟨o,es,ep,t,pr,x,r⟩ kk=>⟨o,es,ep,t,pr,kk o x,r⟩⟩,rfl,k _ T I.fresh (fun j p h=>(hT j p h).2)⟩
  ·rw [mF (mV le.symm)]; exact k2
  ·obtain⟨j',hj',he,hv⟩:=q3 j hj
   obtain⟨i,hi,e1⟩:=fH he
   have hi2:i < kk.length:=by rw [aj]at hi; omega
   obtain⟨b,e2,e3⟩:=k3 i _ (ai hi2)
   have e4:es.toList[i]? =some (lH X.prog X.w (wY (ps.getD j' (0,0))),ak (T j')):=by rw [ai hi,e1]
   rw [bp,e2]at e4
   have eb:b=T j':=by injection e4 with z; injection z with _ z; injection z
   subst eb
   have ek:kk[i]=wY (ps.getD j' (0,0)):=oZ e3 ((tk j' hj').keep fun o z=>hk _ o (au z) z)
   refine⟨_,aR (l:=(es.toList.map (·.2)).zip kk) (n:=i) (by rw [b9]; omega), ?_⟩
   rw [fX]
   exact ek.trans hv
theorem vt(hc:X.calm=true):gK X (.builtin "sorted") (fun xs H Q=> ∃(q:Addr) (n:Nat) (val:Nat->Int×Int) (T:Nat->Addr),xs= [.ref q]/\H q=some (Fw X.w q n val T)/\(∀j,j < n->jR X.K H (T j) (sF (val j)))/\
  ∀(l:Addr) (js:List Nat),H l=none->js.length<=4->(∀j∈js,j < n)->(∀j,j < n-> ∃j'∈js,val j'=val j)->js.Pairwise (fun a b=>vp (val a) (val b)=true)->Q (.ref l) (upd H l (.lst (js.map fun j=>V.ref (T j))))):=by
 intro pins s σ H xs us Q I r ⟨q,n,val,T,e,hq,hT,k⟩
 subst e
 obtain⟨u,rfl,rx⟩:=vals1 r
 cases rx
 obtain⟨⟨o,es,ep,t,pr,hg,S,hpr,nd,q2,q3⟩,_⟩:=I.dO q _ hq
 refine x9 (I.ok.hd hc) S hg pr hpr (fun x hx=> ?_) nd fun h' tk D out c hD hso hg2 hk=> ?_
 ·obtain⟨j,hj,e1,e2⟩:=q2 x hx
  exact⟨_,e1,by rw [e2]; exact Iu I (hT j hj),by rw [e2]; rfl⟩
 ·obtain⟨qq,hp,hout,hpw⟩:=hso
  have hlen:qq.length<=4:=by
   rw [hp.length_eq]
   have this:pr.length=es.size:=by simpa using congrArg jI hpr
   rw [this]; exact S.lu
  obtain⟨js,j1,j2,j3⟩: ∃js:List Nat,(∀j∈js,j < n)/\qq=js.map (fun j=>(ak (T j),wY (val j)))/\True:=by
   have hall: ∀x∈qq, ∃j,j < n/\x=(ak (T j),wY (val j)):=fun x hx=>by
    obtain⟨j,hj,e1,e2⟩:=q2 x (hp.mem_iff.mp hx)
    exact⟨j,hj,Prod.ext e1 e2⟩
   clear hp hout hpw hlen
   induction qq with
   | nil=>exact⟨[],(fun j hj=>by cases hj),rfl,trivial⟩
   | cons x qq ih=>
    obtain⟨j,hj,rfl⟩:=hall x (.head _)
    obtain⟨js,a1,a2,_⟩:=ih fun x hx=>hall x (.tail _ hx)
    refine⟨j::js,fun i hi=> ?_,by rw [bf, <-a2],trivial⟩
    rcases aK.mp hi with rfl | hi
    ·exact hj
    ·exact a1 i hi
  subst j2
  rw [ae]at hlen
  rw [jh]at hpw
  rw [dF]at hout
  subst hout
  have hval: ∀l:List Nat,Vals (l.map fun j=>V.ref (T j)) (l.map fun j=>ak (T j)):=fun l=>by
   induction l with
   | nil=>exact .nil
   | cons a l ih=>exact .cons rfl ih
  refine⟨.ref D,_,I.laid (t':=tk) hk hD (o:= .lst (js.map fun j=>V.ref (T j))) ⟨by rw [ae]; exact jE (by omega),_,c,hval js,hg2⟩,rfl,k D js (I.dO.fresh hD) hlen j1 (fun j hj=> ?_) hpw⟩
  obtain⟨x,hx,e1⟩:=q3 j hj
  obtain⟨j',hj',rfl⟩:=a9.mp (hp.mem_iff.mpr hx)
  exact⟨j',hj',AW e1⟩
theorem yw{K:Frag}{M:MP}{H:Hp}{val:Nat->Int×Int}{T:Nat->Addr}: ∀(js:List Nat),(∀j∈js,jR K H (T j) (sF (val j)))->cA K M H ((js.map val).map pairD) (js.map fun j=>V.ref (T j))
 | [],_=>rfl
 | j::js,h=>⟨.ref (T j),_,rfl,⟨T j,sF (val j),rfl,h j (.head _),_,_,rfl,rfl,_,_,rfl,rfl,rfl⟩,yw js fun i hi=>h i (.tail _ hi)⟩
theorem dP.sortedSet{ps:List (Int×Int)}(hc:X.calm=true)(hu:X.A.units+16 < cLine)(hg2:Gl X "sorted")(hm2:X.mg "sorted"=none)(hg3:Gl X "set")(hm3:X.mg "set"=none)(h:lZ X ρ e (.lst (ps.map pairD)))(hl:ps.length<=4)
  (he:ar [e] X.env= [(false,eval e X.env)]:=by rfl)(he2:ar [.Call (.Name "set" p4) [e] [] p5] X.env= [(false,eval (.Call (.Name "set" p4) [e] [] p5) X.env)]:=by rfl):
  dP X ρ (.Call (.Name "sorted" p2) [.Call (.Name "set" p4) [e] [] p5] [] p3) ((nU ps).map pairD):=fun M0 H0 γ α σ H Q R k=>
 (gZ (vt hc) hg2 hm2 (by decide +kernel) (dG (jP (Bo hc hu) hg3 hm3 (by decide +kernel) (dG g7 gG he) (by decide) (by decide) he) gG he2) (by decide) (by decide) he2).to
  (h M0 H0 γ α σ H _ R fun v H1 s1 d1=>by
   obtain⟨q,xs,e1,sq,dn⟩:=id d1
   subst e1
   have get: ∀j,j < ps.length->ps[j]? =some (ps.getD j (0,0)):=fun j h=>by rw [aG,ai h]; rfl
   refine⟨q,_,ps,rfl,d1,hl,fun l T hl1 hT=>⟨l,_,_,T,rfl,bC,fun j hj=>oG.tup (o_ (M:=JA) (bt hl1)) (hT j _ (get j hj)),fun l2 js hl2 hlen hin hcov hpw=> ?_⟩⟩
   have eq:js.map (fun j=>ps.getD j (0,0))=nU ps:=by
    refine B8 (fun x=> ?_) (by rw [jh]; exact hpw)
    constructor
    ·intro hx
     obtain⟨j,hj,rfl⟩:=a9.mp hx
     exact aW (get j (hin j hj))
    ·intro hx
     obtain⟨j,hj,e1⟩:=fH hx
     obtain⟨j',hj',e2⟩:=hcov j hj
     refine a9.mpr ⟨j',hj', ?_⟩
     rw [e2,aG,ai hj]
     exact e1
   refine k l2 _ _ _ (s1.trans (bt hl1)) hl2 (bt hl2) bC ?_
   rw [<-eq]
   exact yw js fun j hj=>oG.tup (o_ (M:=JA) (bt hl2)) (oG.tup (o_ (M:=JA) (bt hl1)) (hT j _ (get j (hin j hj)))))
theorem av.sortedSetT{ps:List (Int×Int)}(hc:X.calm=true)(hu:X.A.units+16 < cLine)(hg1:Gl X "tuple")(hm1:X.mg "tuple"=none)(hg2:Gl X "sorted")(hm2:X.mg "sorted"=none)(hg3:Gl X "set")(hm3:X.mg "set"=none)(h:lZ X ρ e (.lst (ps.map pairD)))(hl:ps.length<=4)
  (he:ar [e] X.env= [(false,eval e X.env)]:=by rfl)(he2:ar [.Call (.Name "set" p4) [e] [] p5] X.env= [(false,eval (.Call (.Name "set" p4) [e] [] p5) X.env)]:=by rfl)
  (he3:ar [.Call (.Name "sorted" p2) [.Call (.Name "set" p4) [e] [] p5] [] p3] X.env= [(false,eval (.Call (.Name "sorted" p2) [.Call (.Name "set" p4) [e] [] p5] [] p3) X.env)]:=by rfl):
  av X ρ (.Call (.Name "tuple" p) [.Call (.Name "sorted" p2) [.Call (.Name "set" p4) [e] [] p5] [] p3] [] pos) (.tup ((nU ps).map pairD)):=av.tupleL hg1 hm1 (av.r (dP.toD (dP.sortedSet hc hu hg2 hm2 hg3 hm3 h hl he he2))) he3
end
end Z
namespace Z
open PySem PySem.Spec PyProof.Rows
end Z
namespace Z
open PySem PySem.Spec PyProof.Rows L2
theorem sO{scope:Scope}{env:Env}{y1 y2:Str}{c1 c2:Addr}{pre mid post:List (Str×jH)}(hs:scope.names=pre ++ (y1, .free)::(mid ++ (y2, .free)::post))(h1: ∀z∈pre,z.2≠ .free)(h2: ∀z∈mid,z.2≠ .free)(h3: ∀z∈post,z.2≠ .free)(hc1:env.cells.lookup y1=some c1)(hc2:env.cells.lookup y2=some c2):wQ scope env=pure [(y2,c2),(y1,c1)]:=by
 have step: ∀(y:Str) (c:Addr) (acc:List (Str×Addr)),env.cells.lookup y=some c->jv env (y, .free) acc=pure (iE ((y,c)::acc)):=fun y c acc hc=>by
  have e:cellOf env y=pure c:=by unfold cellOf; rw [hc]
  unfold jv
  simp only [beq_self_eq_true,if_true,e,ua]
 have all:forIn scope.names ([]:List (Str×Addr)) (jv env)=pure [(y2,c2),(y1,c1)]:=by
  rw [hs,nt pre _ [] h1,cP,step y1 c1 [] hc1]
  simp only [ua]
  rw [nt mid _ _ h2,cP,step y2 c2 _ hc2]
  simp only [ua]
  have:=nt (env:=env) post [] [(y2,c2),(y1,c1)] h3
  rw [aZ]at this
  rw [this]
  rfl
 have e3:wQ scope env=(forIn scope.names ([]:List (Str×Addr)) (jv env) >>=fun r=>pure r):=rfl
 rw [e3,all]
 rfl
theorem eE.cap2{X:Cx}{scope:Scope}{x y1 y2:Str}{c1 c2:Addr}{j1 j2:Nat}{pre mid post rn:List (Str×jH)}(hs:scope.names=pre ++ (y1, .free)::(mid ++ (y2, .free)::post))(h1: ∀z∈pre,z.2≠ .free)(h2: ∀z∈mid,z.2≠ .free)(h3: ∀z∈post,z.2≠ .free)(hcl1:X.env.cells.lookup y1=some c1)(hcl2:X.env.cells.lookup y2=some c2)(hne:(y1==y2)=false)
  (hc: ∀z∈scope.names,z.2≠ .cell)(hk:scope.kind= .function)(hn: ∀y∈scope.names,y.2= .local->scope.names.lookup y.1=some .local)(ho:scope.names.lookup x=some .local)(hj1:X.N[j1]? =some y1)(hj2:X.N[j2]? =some y2)(hy1:X.env.scope.names.lookup y1=some .cell)(hy2:X.env.scope.names.lookup y2=some .cell)
  (hrel:(o8 scope X.env).names=rn)(hrn1:rn.lookup y1=some .cell)(hrn2:rn.lookup y2=some .cell)(hall: ∀z∈rn,(z.2= .cell\/z.2= .free)->z.1=y1\/z.1=y2):eE X [x,y1,y2] [j1,j2] scope x [(y2,c2),(y1,c1)] where
 Ca:=sO hs h1 h2 h3 hcl1 hcl2
 cell:=hc
 kind:=hk
 names:=hn
 own:=ho
 hN:=⟨[y1,y2],rfl,rfl,fun i z k e1 e2=>by
  match i,e1,e2 with
  | 0,e1,e2=>
   have e1':y1=z:=by simpa using e1
   have e2':j1=k:=by simpa using e2
   subst e1' e2'
   refine⟨hj1,hy1,by rw [hrel]; exact hrn1,fun c' e=> ?_⟩
   rw [hcl1]at e
   cases e
   rw [hV,hne]
   simp
  | 1,e1,e2=>
   have e1':y2=z:=by simpa using e1
   have e2':j2=k:=by simpa using e2
   subst e1' e2'
   refine⟨hj2,hy2,by rw [hrel]; exact hrn2,fun c' e=> ?_⟩
   rw [hcl2]at e
   cases e
   simp
  | i+2,e1,_=>simp at e1⟩
 sub:=fun z d h=>by
  rw [hV]at h
  cases hb:z==y2 with
  | true=>
   rw [hb]at h
   cases h
   rw [beq_iff_eq.mp hb]
   exact hcl2
  | false=>
   rw [hb]at h
   dsimp only at h
   rw [hV]at h
   cases hb1:z==y1 with
   | true=>
    rw [hb1]at h
    cases h
    rw [beq_iff_eq.mp hb1]
    exact hcl1
   | false=>rw [hb1]at h; simp at h
 has:=fun z h=>by
  rw [hrel]at h
  have:z=y1\/z=y2:=by
   rcases h with h | h
   ·exact hall _ (cD h) (.inl rfl)
   ·exact hall _ (cD h) (.inr rfl)
  rcases this with rfl | rfl
  ·exact⟨c1,by rw [hV,hne]; simp⟩
  ·exact⟨c2,by simp⟩
theorem Li{ρ:eT}{j1 j2:Nat}{d1 d2:D}(h1:ρ[j1]? =some (.im d1))(h2:ρ[j2]? =some (.im d2)):xB ρ [j1,j2] [d1,d2]:=⟨rfl,fun k i d e1 e2=>by
 match k,e1,e2 with
 | 0,e1,e2=>
  have e1':j1=i:=by simpa using e1
  have e2':d1=d:=by simpa using e2
  subst e1' e2'
  exact h1
 | 1,e1,e2=>
  have e1':j2=i:=by simpa using e1
  have e2':d2=d:=by simpa using e2
  subst e1' e2'
  exact h2
 | k+2,e1,_=>simp at e1⟩
end Z
namespace K
open PySem L2 Z
def FN:List Str:= ["stack_count","most_crates","crane_strength","banned_pairs"]
abbrev eU:=List (Int×Int)
def ur(f:dM)(qs:eU):List D:= [.int f.st, .int f.ht, .int f.lf, .tup (qs.map pD)]
def iK(C:Addr)(f:dM)(qs:eU):D:= .ins C FN (ur f qs)
structure Jj(K:Frag)(C:Addr):Prop where
 cl:zo K C
 n1:i6 K C "stack_count"
 n2:i6 K C "most_crates"
 n3:i6 K C "crane_strength"
 n4:i6 K C "banned_pairs"
structure uy(f:dM):Prop where
 st:2<=f.st/\f.st<=4
 ht:1<=f.ht/\f.ht<=6
 lf:1<=f.lf/\f.lf<=3
 lu:f.i3.length<=4
 ok:f.i3.all pL=true
section
variable {P:aq}{w:World}{K:Frag}{mg:Str->Option Value}{base:Heap}{CX:f9}{C:Addr}
abbrev Ai(P:aq)(w:World)(K:Frag)(mg:Str->Option Value)(base:Heap)(CX:f9)(C:Addr):Prop:=
 Km P w K mg base CX 1 C "stacks" (fun i:dM×eU=> [iK C i.1 i.2]) (fun _=>True) (fun i=> .ok (.int i.1.st))
abbrev Av(P:aq)(w:World)(K:Frag)(mg:Str->Option Value)(base:Heap)(CX:f9)(C:Addr):Prop:=
 Km P w K mg base CX 1 C "height" (fun i:dM×eU=> [iK C i.1 i.2]) (fun _=>True) (fun i=> .ok (.int i.1.ht))
abbrev IH(P:aq)(w:World)(K:Frag)(mg:Str->Option Value)(base:Heap)(CX:f9)(C:Addr):Prop:=
 Km P w K mg base CX 1 C "lift" (fun i:dM×eU=> [iK C i.1 i.2]) (fun _=>True) (fun i=> .ok (.int i.1.lf))
abbrev II(P:aq)(w:World)(K:Frag)(mg:Str->Option Value)(base:Heap)(CX:f9)(C:Addr):Prop:=
 Km P w K mg base CX 1 C "bans" (fun i:dM×eU=> [iK C i.1 i.2]) (fun _=>True) (fun i=> .ok (.lst (i.2.map pD)))
theorem Mc:bL ["self"] ["self"] (aF (Cw 1)):=⟨rfl,rfl,rfl,by decide +kernel,rfl,by decide +kernel,by decide +kernel⟩
theorem LG:bL ["self"] ["self"] (aF (Cw 2)):=⟨rfl,rfl,rfl,by decide +kernel,rfl,by decide +kernel,by decide +kernel⟩
theorem LL:bL ["self"] ["self"] (aF (Cw 3)):=⟨rfl,rfl,rfl,by decide +kernel,rfl,by decide +kernel,by decide +kernel⟩
theorem Mg:bL ["self"] ["self"] (aF (Cw 4)):=⟨rfl,rfl,rfl,by decide +kernel,rfl,by decide +kernel,by decide +kernel⟩
theorem Mo(f:dM)(qs:eU):lX FN (ur f qs) "stack_count"=some (.int f.st):=rfl
theorem LS(f:dM)(qs:eU):lX FN (ur f qs) "most_crates"=some (.int f.ht):=by
 unfold FN ur
 rw [lX,if_neg (by decide +kernel),lX,if_pos (by decide +kernel)]
theorem Mq(f:dM)(qs:eU):lX FN (ur f qs) "crane_strength"=some (.int f.lf):=by
 unfold FN ur
 rw [lX,if_neg (by decide +kernel),lX,if_neg (by decide +kernel),lX,if_pos (by decide +kernel)]
theorem Mi(f:dM)(qs:eU):lX FN (ur f qs) "banned_pairs"=some (.tup (qs.map pD)):=by
 unfold FN ur
 rw [lX,if_neg (by decide +kernel),lX,if_neg (by decide +kernel),lX,if_neg (by decide +kernel),lX,if_pos (by decide +kernel)]
theorem BD{f:Addr}{fd:aV}(T:Jj K C)(F:jo K "stacks" "Floor.stacks" (Cw 1) f fd)(hm:Meth K C "stacks" f)(hb:Binds K fd ["self"] []):Ai P w K mg base CX C:=
 vO F Mc hm hb (fun i=>rfl) fun cdv A outer s H E i M0 hp hr=>⟨_,rfl,WS.one (W1.ret (av.fld T.cl T.n1 (nm 0 rfl rfl) (Mo i.1 i.2)) rfl)⟩
theorem BQ{f:Addr}{fd:aV}(T:Jj K C)(F:jo K "height" "Floor.height" (Cw 2) f fd)(hm:Meth K C "height" f)(hb:Binds K fd ["self"] []):Av P w K mg base CX C:=
 vO F LG hm hb (fun i=>rfl) fun cdv A outer s H E i M0 hp hr=>⟨_,rfl,WS.one (W1.ret (av.fld T.cl T.n2 (nm 0 rfl rfl) (LS i.1 i.2)) rfl)⟩
theorem Gs{f:Addr}{fd:aV}(T:Jj K C)(F:jo K "lift" "Floor.lift" (Cw 3) f fd)(hm:Meth K C "lift" f)(hb:Binds K fd ["self"] []):IH P w K mg base CX C:=
 vO F LL hm hb (fun i=>rfl) fun cdv A outer s H E i M0 hp hr=>⟨_,rfl,WS.one (W1.ret (av.fld T.cl T.n3 (nm 0 rfl rfl) (Mq i.1 i.2)) rfl)⟩
theorem GW{f:Addr}{fd:aV}(B:Bm mg)(T:Jj K C)(F:jo K "bans" "Floor.bans" (Cw 4) f fd)(hm:Meth K C "bans" f)(hb:Binds K fd ["self"] []):II P w K mg base CX C:=
 vO F Mg hm hb (fun i=>rfl) fun cdv A outer s H E i M0 hp hr=>⟨_,rfl,WS.one (W1.ret (dP.toD (dP.listT rfl B.list (av.fld T.cl T.n4 (nm 0 rfl rfl) (Mi i.1 i.2)))) rfl)⟩
theorem JM:bL ["self","stacks","height","lift","bans"] ["self","stacks","height","lift","bans"] (aF xK):=⟨rfl,rfl,rfl,by decide +kernel,rfl,by decide +kernel,by decide +kernel⟩
abbrev DF(P:aq)(w:World)(K:Frag)(mg:Str->Option Value)(base:Heap)(CX:f9)(C:Addr):Prop:=
 Mr P w K mg base CX 5 "Floor" C FN (fun f:dM=> [.int f.st, .int f.ht, .int f.lf, .lst (f.i3.map pD)]) uy (fun f ds=> ∃qs:eU,ds=ur f qs/\qs=nU f.i3)
theorem Eu{K:Frag}{M0:MP}{H H1 H':Hp}{γ:List (D×V)}{α:Nat->Addr}{ρ:eT}{σ:St}(r:Rep K M0 H γ α ρ σ H')(hM: ∀a,M0 a->H1 a≠none)(s:bJ H1 H)(nomu: ∀(i:Nat) (ds:List D),ρ[i]? ≠some (.mu ds)):Rep K M0 H1 γ α ρ σ H':=
 ⟨s.trans r.same,hM,r.inj,r.im,fun i ds e=>absurd e (nomu i ds),r.gh,r.len⟩
theorem La(a b c d:V):fY "banned_pairs" d (fY "crane_strength" c (fY "most_crates" b (fY "stack_count" a [])))=([("stack_count",a),("most_crates",b),("crane_strength",c),("banned_pairs",d)]:List (Str×V)):=by
 have n1:("stack_count":Str)≠"most_crates":=by decide +kernel
 have n2:("stack_count":Str)≠"crane_strength":=by decide +kernel
 have n3:("most_crates":Str)≠"crane_strength":=by decide +kernel
 have n4:("stack_count":Str)≠"banned_pairs":=by decide +kernel
 have n5:("most_crates":Str)≠"banned_pairs":=by decide +kernel
 have n6:("crane_strength":Str)≠"banned_pairs":=by decide +kernel
 simp only [fY,n1,n2,n3,n4,n5,n6,if_false]
theorem Aj(n:Nat)(ps:eU): ∀d∈ps.map pD,D.noI (n+1) d:=fun d hd=>by
 obtain⟨p,_,rfl⟩:=a9.mp hd
 intro e he
 have:e= .int p.1\/e= .int p.2:=by simpa [pD]using he
 rcases this with rfl | rfl <;> (cases n <;> exact cN)
theorem GK{f:Addr}{fd:aV}(nx:NX CX)(B:Bm mg)(T:Jj K C)(G1:nE P w K mg base CX)(G2:sv P w K mg base CX)(F:jo K "__init__" "Floor.__init__" xK f fd)(M:Mk K C f)(hm:mg "Floor"=some (.ref C))(hb:Binds K fd ["self","stacks","height","lift","bans"] []):DF P w K mg base CX C:=by
 refine⟨f,fd,_, ?_,M,hm,hb⟩
 obtain⟨oc,od,kV,doc,pm,an,cdv,ct,osl,rfl,lk,hcd⟩:=F.ex
 refine xY lk hcd JM (fun vs H Q E ⟨i,M0,x,dx,us,e,_,_,h,_⟩=>by subst e; rw [aH,h.len]; rfl) fun A outer s H vs Q E hr hsp=> ?_
 obtain⟨fl,M0,x,dx,us,rfl,hx,hM,hd,hp,kk⟩:=hsp
 refine⟨nj _ (ba xK),(fK (X:=(kz CX P w K mg base ["self","stacks","height","lift","bans"] "Floor.__init__" (aF xK) f cdv A outer s H E).nox)).nox, ?_⟩
 obtain⟨⟨s2,s4⟩,⟨h1,h6⟩,⟨l1,l3⟩,hfew,dO⟩:=hp
 have hM': ∀a,M0 a->H a≠none:=fun a ha z=>hM a ha (e_.free z)
 have R1:Rep K M0 H [] (fun _=>0) (qI ["self","stacks","height","lift","bans"] (.ins C [] []:: [.int fl.st, .int fl.ht, .int fl.lf, .lst (fl.i3.map pD)])) (L2.start ["self","stacks","height","lift","bans"] (.ref x::us)) H:=
  rep0 hM' ⟨_,_,rfl,⟨x,dx, [],rfl,hx,rfl,rfl⟩,hd⟩
 have R2:=Eu (R1.drop1 (i:=0)) hM e_ (fun i ds e=>by
  have:i < 5:=(aD.mp e).1
  match i,this with
  | 0,_=>cases e
  | 1,_=>cases e
  | 2,_=>cases e
  | 3,_=>cases e
  | 4,_=>cases e)
 have hσ:(L2.start ["self","stacks","height","lift","bans"] (.ref x::us))[0]? =some (some (.ref x)):=rfl
 generalize L2.start ["self","stacks","height","lift","bans"] (.ref x::us)=σ at R2 hσ ⊢
 change Rep K M0 (eG H x) [] (fun _=>0) [.un, .im (.int fl.st), .im (.int fl.ht), .im (.int fl.lf), .im (.lst (fl.i3.map pD))] σ H at R2
 have hi: ∀sl∈([.un, .im (.int fl.st), .im (.int fl.ht), .im (.int fl.lf), .im (.lst (fl.i3.map pD))]:eT),sl= .un\/ ∃d,sl= .im d/\D.noI 9 d:=fun sl hs=>by
  have:sl= .un\/sl= .im (.int fl.st)\/sl= .im (.int fl.ht)\/sl= .im (.int fl.lf)\/sl= .im (.lst (fl.i3.map pD)):=by simpa using hs
  rcases this with rfl | rfl | rfl | rfl | rfl
  ·exact .inl rfl
  ·exact .inr ⟨_,rfl,trivial⟩
  ·exact .inr ⟨_,rfl,trivial⟩
  ·exact .inr ⟨_,rfl,trivial⟩
  ·exact .inr ⟨_,rfl,Aj 7 _⟩
 refine(dq sN fK).to (r_ (ρ:= [.un, .im (.int fl.st), .im (.int fl.ht), .im (.int fl.lf), .im (.lst (fl.i3.map pD))]) (cG.to (cG.not (cG.val (av.call G1 (hr.mono (by decide)) (aO nx) rfl (fl.st,2,4) (aP.cons (nm 1 rfl rfl) (aP.cons (si B.lu rfl) (aP.cons (si B.most rfl) aP.nil))) trivial rfl))) (by rw [decide_eq_true s2,decide_eq_true s4]; rfl)) R2 fun H1 t1=> ?_)
 have R3:=R2.next t1
 refine(dq sN fK).to (r_ (ρ:= [.un, .im (.int fl.st), .im (.int fl.ht), .im (.int fl.lf), .im (.lst (fl.i3.map pD))]) (cG.to (cG.not (cG.val (av.call G1 (hr.mono (by decide)) (aO nx) rfl (fl.ht,1,6) (aP.cons (nm 2 rfl rfl) (aP.cons (si B.low rfl) (aP.cons (si B.great rfl) aP.nil))) trivial rfl))) (by rw [decide_eq_true h1,decide_eq_true h6]; rfl)) R3 fun H2 t2=> ?_)
 have R4:=R3.next t2
 refine(dq sN fK).to (r_ (ρ:= [.un, .im (.int fl.st), .im (.int fl.ht), .im (.int fl.lf), .im (.lst (fl.i3.map pD))]) (cG.to (cG.not (cG.val (av.call G1 (hr.mono (by decide)) (aO nx) rfl (fl.lf,1,3) (aP.cons (nm 3 rfl rfl) (aP.cons (si B.weak rfl) (aP.cons (si B.El rfl) aP.nil))) trivial rfl))) (by rw [decide_eq_true l1,decide_eq_true l3]; rfl)) R4 fun H3 t3=> ?_)
 have R5:=R4.next t3
 refine(dq sN fK).to (r_ (ρ:= [.un, .im (.int fl.st), .im (.int fl.ht), .im (.int fl.lf), .im (.lst (fl.i3.map pD))]) (cG.to (cG.not (cG.val (av.call G2 hr (aO nx) rfl fl.i3 (aP.cons (nm 4 rfl rfl) aP.nil) (show fl.i3.length<=100 by omega) rfl))) (by rw [dO,decide_eq_true (show fl.i3.length<=20 by omega)]; rfl)) R5 fun H4 t4=> ?_)
 have R6:=R5.next t4
 have x4:H4 x=some (.ins C dx []):=t4 _ _ (t3 _ _ (t2 _ _ (t1 _ _ hx)))
 refine(dq sN fK).to (zH 0 rfl (.inl rfl) hσ T.cl T.n1 (by decide) (nm 1 rfl rfl) R6 x4 fun v1 H5 t5 d5=> ?_)
 cases (show v1=V.int fl.st from d5)
 have x5:=t5 _ _ x4
 have R7:=(R6.next t5).ins (fs':=fY "stack_count" (V.int fl.st) []) pO x5 hi
 refine(dq sN fK).to (zH 0 rfl (.inl rfl) hσ T.cl T.n2 (by show 1 < 1000; decide) (nm 2 rfl rfl) R7 bC fun v2 H6 t6 d6=> ?_)
 cases (show v2=V.int fl.ht from d6)
 have x6:=t6 _ _ bC
 have R8:=(R7.next t6).ins (fs':=fY "most_crates" (V.int fl.ht) (fY "stack_count" (V.int fl.st) [])) pO x6 hi
 refine(dq sN fK).to (zH 0 rfl (.inl rfl) hσ T.cl T.n3 (iV (jm _ _ _) (by show 2 < 1000; decide)) (nm 3 rfl rfl) R8 bC fun v3 H7 t7 d7=> ?_)
 cases (show v3=V.int fl.lf from d7)
 have x7:=t7 _ _ bC
 have R9:=(R8.next t7).ins (fs':=fY "crane_strength" (V.int fl.lf) (fY "most_crates" (V.int fl.ht) (fY "stack_count" (V.int fl.st) []))) pO x7 hi
 refine(rg sN).to (Gq 0 rfl (.inl rfl) hσ T.cl T.n4 (iV (jm _ _ _) (iV (Nat.succ_le_succ (jm _ _ _)) (by show 3 < 1000; decide))) (av.toP (R:=fun d=> ∃qs:eU,d= .tup (qs.map pairD)/\qs=nU fl.i3) (av.sortedSetT (ps:=fl.i3) rfl (iV (Nat.add_le_add_left (by decide:16<=16 * 4+200) _) (by have:=hr.un; rw [mi]at this; exact this)) rfl B.tuple rfl B.sorted rfl B.set (av.r (nm 4 rfl rfl)) hfew) ⟨_,rfl,rfl⟩) R9 bC fun d4 v4 H8 hd4 t8 d8=> ?_)
 obtain⟨qs,rfl,hq⟩:=hd4
 have x8:=t8 _ _ bC
 have R10:=(R9.next t8).ins (fs':=fY "banned_pairs" v4 (fY "crane_strength" (V.int fl.lf) (fY "most_crates" (V.int fl.ht) (fY "stack_count" (V.int fl.st) [])))) pO x8 hi
 have d9:Dn K M0 (upd H8 x (.ins C dx (fY "banned_pairs" v4 (fY "crane_strength" (V.int fl.lf) (fY "most_crates" (V.int fl.ht) (fY "stack_count" (V.int fl.st) [])))))) (.tup (qs.map pD)) v4:=Dn.noI (Eg x8) 9 (Aj 7 qs) (d8.less fun a ha=> .inl ha)
 refine kk (ur fl qs) [("stack_count", .int fl.st),("most_crates", .int fl.ht),("crane_strength", .int fl.lf),("banned_pairs",v4)] _ ⟨qs,rfl,hq⟩ R10.same (by rw [bC,La]) rfl ⟨_,_,rfl,rfl,_,_,rfl,rfl,_,_,rfl,rfl,_,_,rfl,d9,rfl⟩
end
theorem Gz(n d:Nat):HT.h_ n d (some 1)=min 1 n:=by
 unfold HT.h_
 simp
theorem GU(ds:List D):cutD ds (some 1) none=ds.drop 1:=by
 unfold cutD
 rw [Gz]
 cases ds with
 | nil=>rfl
 | cons a l=>
  have e:min 1 (a::l).length=1:=by simp
  rw [e]
  show((a::l).drop 1).take ((a::l).length - 1)=_
  rw [dB (by simp)]
def IA(f:dM)(r:List Int):Bool:= !((r.drop 1).zip r).any fun p=>decide (p∈f.i3)
theorem ED(f:dM)(r:List Int):jk f r=(decide ((r.length:Int)<=f.ht)&&(r.all jD&&IA f r)):=by
 unfold jk
 congr 1
 rw [nO]
 simp only [di,gS,bx,IA,gN,List.any_eq_false,decide_eq_true_eq]
 have gd: ∀k (h:k < r.length),r.getD k 0=r[k]:=fun k h=>by rw [aG,ai h]; rfl
 constructor
 ·intro h
  refine⟨fun x hx=> ?_,fun p hp hm=> ?_⟩
  ·obtain⟨k,hk,rfl⟩:=fH hx
   have:=h k hk
   unfold vB at this
   rw [gd k hk,bx]at this
   exact this.1
  ·obtain⟨k,hk,e⟩:=fH hp
   rw [b9,bw]at hk
   have hk1:k+1 < r.length:=by omega
   have h1:=h (k+1) hk1
   unfold vB at h1
   rw [gd _ hk1,show k+1 - 1=k from rfl,gd k (by omega)]at h1
   rw [fX,dE]at e
   have e':(r[k+1],r[k])=p:=by
    rw [<-e]
    congr 2
    omega
   rw [e']at h1
   simp [hm]at h1
 ·rintro⟨h1,h2⟩ k hk
  unfold vB
  rw [gd k hk,bx]
  refine⟨h1 _ (aR hk), ?_⟩
  rw [gN,jt]
  by_cases h0:0 < k
  ·refine .inr (decide_eq_false ?_)
   rw [gd (k - 1) (by omega)]
   refine h2 _ ?_
   have hl:k - 1 < ((r.drop 1).zip r).length:=by rw [b9,bw]; omega
   have e:((r.drop 1).zip r)[k - 1]=(r[k],r[k - 1]):=by
    rw [fX,dE]
    congr 2
    omega
   rw [<-e]
   exact aR hl
  ·exact .inl (decide_eq_false h0)
structure fZ(f:dM)(qs:eU):Prop where
 ok:uy f
 lu:qs.length<=4
 mem: ∀q,q∈qs↔q∈f.i3
section
variable {P:aq}{w:World}{K:Frag}{mg:Str->Option Value}{base:Heap}{CX:f9}{C:Addr}
structure Fl(P:aq)(w:World)(K:Frag)(mg:Str->Option Value)(base:Heap)(CX:f9)(C:Addr):Prop where
 t:Jj K C
 st:Ai P w K mg base CX C
 ht:Av P w K mg base CX C
 lf:IH P w K mg base CX C
 bs:II P w K mg base CX C
theorem qy:bL ["floor","stack","bans"] ["floor","stack"] (aF l0):=⟨rfl,rfl,rfl,by decide +kernel,rfl,by decide +kernel,by decide +kernel⟩
abbrev oo(P:aq)(w:World)(K:Frag)(mg:Str->Option Value)(base:Heap)(CX:f9)(C:Addr):Prop:=
 lO P w K mg base CX 3 "is_good_stack" (fun i:dM×eU×List Int=> [iK C i.1 i.2.1,xj true (i.2.2.map .int)]) (fun i=>fZ i.1 i.2.1/\i.2.2.length<=1000) (fun i=> .ok (.bl (jk i.1 i.2.2)))
theorem Bi(as bs:List Int):DK (as.map .int) (bs.map .int)=(as.zip bs).map pD:=by
 unfold DK
 rw [List.zip_map,dF]
 rfl
theorem vz{f:Addr}{fd:aV}(nx:NX CX)(B:Bm mg)(L:Fl P w K mg base CX C)(G:wt P w K mg base CX)(F:jo K "is_good_stack" "is_good_stack" l0 f fd)(hm:mg "is_good_stack"=some (.ref f))(hb:Binds K fd ["floor","stack"] []):oo P w K mg base CX C:=by
 refine fg F qy hm hb (fun i=>rfl) fun cdv A outer s H E i M0 hp hr=>⟨_,rfl, ?_⟩
 obtain⟨fl,qs,r⟩:=i
 obtain⟨hS,hlen⟩:fZ fl qs/\r.length<=1000:=hp
 have px:=qy.nd
 have hr1:=hr.mono (show 1<=2 by decide)
 change WS _ M0 H (ba l0) [.im (iK C fl qs), .im (.tup (r.map .int)), .un] _
 rw [ED]
 refine WS.cons (W1.ite (i5.t (i5.or (cG.not (cG.val (av.rC rfl B.rC rfl B.tuple (by decide +kernel) (.inr (.inr (.inr (.inl rfl)))) (av.r (nm 1 rfl rfl)) rfl))) fun _=>i5.or1 (cG.cI .gt (av.lenT rfl B.len (nm 1 rfl rfl)) (av.meth0 L.t.cl L.ht hr1 (aO nx) (fl,qs) (nm 0 rfl rfl) rfl trivial rfl)))) (fun h=> ?_) fun h=>WS.nil ?_)
 ·rw [o9,ae]at h
  have h':fl.ht < (r.length:Int):=by simpa using h
  exact WS.one (W1.ret av.bl (by dsimp only; rw [decide_eq_false (by omega)]; rfl))
 rw [o9,ae]at h
 have hle:(r.length:Int)<=fl.ht:=by
  have: ¬fl.ht < (r.length:Int):=by simpa using h
  omega
 rw [decide_eq_true hle,iz]
 refine WS.cons (W1.ite (cG.not (cG.val (av.all (bs:=r.map jD) rfl rfl B.all (av.r (dP.toD (dP.comp (ds:=r.map .int) (es:=(r.map jD).map D.bl) (cs:= []) (eE.closed (by decide +kernel) (by decide +kernel) rfl (by decide +kernel) rfl) rfl (by decide +kernel) (ky.tup (nm 1 rfl rfl)) wg (by simp) (by rw [ae]; omega) ?_)))))) (fun h=> ?_) fun h=>WS.nil ?_)
 ·intro C s₀ H₀ fp pins i d e h1 h2
  rw [ax]at h1
  rw [ax,ax]at h2
  cases ei:r[i]? with
  | none=>rw [ei]at h1; cases h1
  | some v=>
   rw [ei]at h1 h2
   cases h1
   cases h2
   exact av.call G hr (aO nx) rfl v (aP.cons (nm 0 rfl rfl) aP.nil) trivial rfl
 ·have h':r.all jD=false:=by simpa using h
  exact WS.one (W1.ret av.bl (by rw [h']; rfl))
 have h':r.all jD=true:=by rw [List.all_map]at h; simpa using h
 rw [h',iz]
 refine WS.cons (W1.set (i:=2) px rfl (.inr rfl) (gC rfl) (av.meth0 L.t.cl L.bs hr1 (aO nx) (fl,qs) (nm 0 rfl rfl) rfl trivial rfl) ?_)
 change WS _ M0 H _ [.im (iK C fl qs), .im (.tup (r.map .int)), .im (.lst (qs.map pD))] _
 refine WS.one (W1.ret (av.to (av.not (av.any (bs:=((r.drop 1).zip r).map fun p=>decide (p∈fl.i3)) rfl rfl B.any (av.r (dP.toD (dP.comp (ds:=((r.drop 1).zip r).map pD) (es:=(((r.drop 1).zip r).map fun p=>decide (p∈fl.i3)).map D.bl) (cs:= [.lst (qs.map pD)]) (N':= ["pair","bans"]) (js:= [2])
  (eE.cap1 (pre:= [(".0", .local),("pair", .local)]) (post:= []) (rn:= [(".0", .local),("pair", .local),("bans", .cell)]) rfl (by decide +kernel) (by decide +kernel) rfl (by decide +kernel) rfl (by decide +kernel) rfl rfl rfl rfl rfl (by decide +kernel)) rfl (by decide +kernel)
  (ky.to (ky.zipT rfl B.zip (av.cutT (nm 1 rfl rfl) (yU.some av.int) yU.none) (nm 1 rfl rfl)) (by rw [GU, <-List.map_drop,Bi])) (Ip rfl) (by simp) (by rw [ae,b9]; omega) ?_))))) (by rw [List.any_map]; rfl)) rfl)
 intro C s₀ H₀ fp pins i d e h1 h2
 rw [ax]at h1
 rw [ax,ax]at h2
 cases ei:((r.drop 1).zip r)[i]? with
 | none=>rw [ei]at h1; cases h1
 | some v=>
  rw [ei]at h1 h2
  cases h1
  cases h2
  refine av.to (av.inL (sV hr) (av.r (nm 0 rfl rfl)) (av.r (nm 1 rfl rfl)) (vF 59 v) xF) ?_
  rw [qc]
  congr 1
  exact decide_eq_decide.mpr (hS.mem v)
end
abbrev Rows:=List (List Int)
abbrev oi:=Int×Int×Int
def tD(t:oi):D:= .tup [.int t.1, .int t.2.1, .int t.2.2]
def qM(f:dM)(v:Int):Bool:=decide (0<=v)&&decide (v<=f.st - 1)
def rowAt(rows:Rows)(v:Int):List Int:=rows.getD v.toNat []
def least(a b:Int):Int:=if b < a then b else a
def oj(f:dM)(rows:Rows)(t:oi):Bool:=(qM f t.1&&(qM f t.2.1&& !decide (t.1=t.2.1)))&&(decide (1<=t.2.2)&&decide (t.2.2<=least f.lf (rowAt rows t.1).length))
def mv(rows:Rows)(t:oi):Rows:=
 (rows.set t.1.toNat ((rowAt rows t.1).take ((rowAt rows t.1).length - t.2.2.toNat))).set t.2.1.toNat (rowAt rows t.2.1 ++ (rowAt rows t.1).drop ((rowAt rows t.1).length - t.2.2.toNat))
def isLet(f:dM)(rows:Rows)(t:oi):Bool:=oj f rows t&&good f (mv rows t)
structure IC(f:dM)(rows:Rows)(t:oi):Prop where
 a0:0<=t.1
 a1:t.1 < f.st
 b0:0<=t.2.1
 b1:t.2.1 < f.st
 ne:t.1≠t.2.1
 n1:1<=t.2.2
 nl:t.2.2<=f.lf
 nr:t.2.2<=(rowAt rows t.1).length
theorem mZ{f:dM}{rows:Rows}{t:oi}:oj f rows t=true↔IC f rows t:=by
 unfold oj qM least
 simp only [bx,decide_eq_true_eq,gN,decide_eq_false_iff_not]
 constructor
 ·rintro⟨⟨⟨h1,h2⟩,⟨h3,h4⟩,h5⟩,h6,h7⟩
  split at h7
  ·exact⟨h1,by omega,h3,by omega,h5,h6,by omega,h7⟩
  ·exact⟨h1,by omega,h3,by omega,h5,h6,h7,by omega⟩
 ·rintro⟨h1,h2,h3,h4,h5,h6,h7,h8⟩
  refine⟨⟨⟨h1,by omega⟩,⟨h3,by omega⟩,h5⟩,h6, ?_⟩
  split <;> omega
theorem mR: ∀(rows:Rows) (i:Nat) (x:List Int),i < rows.length->(rows.set i x).flatten.Perm (x ++ (rows.set i []).flatten)
 | [],i,x,h=>absurd h (nR _)
 | r::rows,0,x,h=>by simp
 | r::rows,i+1,x,h=>by
  have ih:=mR rows i x (by simpa using h)
  rw [FX,FX,cw,cw]
  refine(ih.append_left r).trans ?_
  rw [<-aM, <-aM]
  exact cF.append_right _
theorem jO{rows:Rows}{v:Int}(h0:0<=v)(h:v < rows.length):rows[v.toNat]? =some (rowAt rows v):=by
 unfold rowAt
 have:v.toNat < rows.length:=by omega
 rw [aG,ai this]
 rfl
theorem pE{rows:Rows}{i:Nat}{r:List Int}(h:rows[i]? =some r):rows.set i r=rows:=by
 apply fy
 intro j
 rw [fx]
 split
 ·rename_i e
  subst e
  have:i < rows.length:=(aD.mp h).1
  rw [if_pos this,h]
 ·rfl
theorem Dg(rows:Rows)(t:oi):(mv rows t).length=rows.length:=by unfold mv; rw [bA,bA]
theorem An{f:dM}{rows:Rows}{t:oi}(hl:(rows.length:Int)=f.st)(h:IC f rows t):(mv rows t).flatten.Perm rows.flatten:=by
 obtain⟨a0,a1,b0,b1,ne,n1,nl,nr⟩:=h
 have ha:t.1.toNat < rows.length:=by omega
 have hb:t.2.1.toNat < rows.length:=by omega
 have hne:t.1.toNat≠t.2.1.toNat:=by omega
 have ea:=jO a0 (by omega:t.1 < rows.length)
 have eb:=jO b0 (by omega:t.2.1 < rows.length)
 unfold mv
 generalize rowAt rows t.1=ra at *
 generalize rowAt rows t.2.1=rb at *
 generalize (ra.length - t.2.2.toNat)=k
 generalize t.1.toNat=i at *
 generalize t.2.1.toNat=j at *
 have p1:=mR (rows.set i (ra.take k)) j (rb ++ ra.drop k) (by rw [bA]; exact hb)
 have p2:=mR (rows.set j []) i (ra.take k) (by rw [bA]; exact ha)
 rw [List.set_comm (ra.take k) [] hne]at p1
 have q1:=mR rows i ra ha
 rw [pE ea]at q1
 have ejb:(rows.set i [])[j]? =some rb:=by rw [Ci hne]; exact eb
 have q2:=mR (rows.set i []) j rb (by rw [bA]; exact hb)
 rw [pE ejb,List.set_comm _ _ hne]at q2
 refine p1.trans (((p2.append_left (rb ++ ra.drop k))).trans ((q1.trans (q2.append_left ra)).trans ?_).symm)
 generalize ((rows.set j []).set i []).flatten=rest
 have e:ra=ra.take k ++ ra.drop k:=(aU k ra).symm
 rw [<-aM, <-aM]
 refine List.Perm.append_right _ ?_
 refine cF.trans ?_
 rw [aM]
 refine dQ rb ?_
 refine j_ (List.Perm.of_eq e) cF
theorem AU(n d:Nat)(k:Nat)(h:k<=n):HT.h_ n d (some (k:Int))=k:=by
 unfold HT.h_
 simp
 rw [if_neg (by omega)]
 omega
theorem Jb{ds:List D}{k:Nat}(h:k<=ds.length):cutD ds none (some (k:Int))=ds.take k:=by
 unfold cutD
 rw [AU _ _ _ h]
 show(ds.drop 0).take (k - 0)=_
 rw [kU,Ab]
theorem Eo{ds:List D}{k:Nat}(h:k<=ds.length):cutD ds (some (k:Int)) none=ds.drop k:=by
 unfold cutD
 rw [AU _ _ _ h]
 show(ds.drop k).take (ds.length - k)=_
 rw [dB (by rw [bw]; exact ay _)]
theorem L4{X:Cx}{ρ:eT}{a b:Expr}{p pos:Pos}{i j:Int}(hc:X.calm=true)(hg:Gl X "min")(hm:X.mg "min"=none)(ha:av X ρ a (.int i))(hb:av X ρ b (.int j))
  (he:ar [a,b] X.env=(false,eval a X.env)::ar [b] X.env:=by rfl)(he2:ar [b] X.env= [(false,eval b X.env)]:=by rfl)(hpl:(dZ pos (ar [b] X.env)).any (·.1)=false:=by rfl):av X ρ (.Call (.Name "min" p) [a,b] [] pos) (.int (if j < i then j else i)):=
 av.min hc hg hm (by decide +kernel) ha hb he he2 hpl
section
variable {P:aq}{w:World}{K:Frag}{mg:Str->Option Value}{base:Heap}{CX:f9}{C:Addr}
theorem xi:bL ["floor","standing","crates","stack"] ["floor","standing"] (aF rm):=⟨rfl,rfl,rfl,by decide +kernel,rfl,by decide +kernel,by decide +kernel⟩
structure Small(rows:Rows):Prop where
 fl:rows.flatten.length<=1000
 n:rows.length<=1000
abbrev rj(P:aq)(w:World)(K:Frag)(mg:Str->Option Value)(base:Heap)(CX:f9)(C:Addr):Prop:=
 lO P w K mg base CX 4 "is_good" (fun i:dM×eU×Rows=> [iK C i.1 i.2.1, .tup (bF true i.2.2)]) (fun i=>fZ i.1 i.2.1/\Small i.2.2) (fun i=> .ok (.bl (good i.1 i.2.2)))
theorem Bk{f:Addr}{fd:aV}(nx:NX CX)(B:Bm mg)(L:Fl P w K mg base CX C)(G:oo P w K mg base CX C)(F:jo K "is_good" "is_good" rm f fd)(hm:mg "is_good"=some (.ref f))(hb:Binds K fd ["floor","standing"] []):rj P w K mg base CX C:=by
 refine fg F xi hm hb (fun i=>rfl) fun cdv A outer s H E i M0 hp hr=>⟨_,rfl, ?_⟩
 obtain⟨fl,qs,rows⟩:=i
 obtain⟨hS,hp1,hp2⟩:fZ fl qs/\Small rows:=hp
 have px:=xi.nd
 have hlen:(bF true rows).length=rows.length:=ae ..
 change WS _ M0 H (ba rm) [.im (iK C fl qs), .im (.tup (bF true rows)), .un, .un] {N:=fun _=>D.bl (good fl rows)= .non,R:=fun d'=>d'= .bl (good fl rows)}
 refine WS.cons (W1.ite (i5.t (i5.or (cG.not (cG.val (av.rC rfl B.rC rfl B.tuple (by decide +kernel) (.inr (.inr (.inr (.inl rfl)))) (av.r (nm 1 rfl rfl)) rfl))) fun _=>i5.or1 (cG.cI .ne (av.lenT rfl B.len (nm 1 rfl rfl)) (av.meth0 L.t.cl L.st (hr.mono (by decide)) (aO nx) (fl,qs) (nm 0 rfl rfl) rfl trivial rfl)))) (fun h=> ?_) fun h=>WS.nil ?_)
 ·rw [o9,hlen]at h
  have h': ¬(rows.length:Int)=fl.st:=by simpa using h
  refine WS.one (W1.ret av.bl ?_)
  show D.bl false=D.bl (good fl rows)
  unfold good
  rw [decide_eq_false h']
  rfl
 rw [o9,hlen]at h
 have g1:(rows.length:Int)=fl.st:=by simpa using h
 refine WS.cons (W1.setF (i:=2) px rfl (.inl rfl) (gC rfl) (dP.lst aP.nil) ?_)
 refine WS.cons (W1.for (ds:=bF true rows) (fun i ρ=>(rows.take i).all (jk fl)=true/\ ∃a,ρ= [.im (iK C fl qs), .im (.tup (bF true rows)), .mu ((rows.take i).flatten.map .int),a]) cp rfl (ky.tup (nm 1 rfl rfl)) ⟨by rw [gU]; rfl,_,by rw [gU]; rfl⟩ ?_ ?_)
 ·rintro i d ρ hd ⟨hall,a,rfl⟩
  obtain⟨r,hr',rfl⟩:=iu hd
  have l1:=ji rows i
  have l2:=kl (aW hr')
  refine⟨_,A1.name (i:=3) px rfl (.inl rfl) (gC rfl), ?_⟩
  change WS _ M0 H _ [.im (iK C fl qs), .im (.tup (bF true rows)), .mu ((rows.take i).flatten.map .int), .im (xj true (r.map .int))] _
  refine WS.cons (W1.ite (cG.not (cG.val (av.call G hr (aO nx) rfl (fl,qs,r) (aP.cons (nm 0 rfl rfl) (aP.cons (nm 3 rfl rfl) aP.nil)) ⟨hS,show r.length<=1000 by omega⟩ rfl))) (fun h3=> ?_) fun h3=>WS.nil ?_)
  ·refine WS.one (W1.ret av.bl ?_)
   have hf:jk fl r=false:=by simpa using h3
   show D.bl false=D.bl (good fl rows)
   unfold good
   have:rows.all (jk fl)=false:=by
    rw [Gd]
    exact⟨r,aW hr',by rw [hf]; exact aA⟩
   rw [this,kT]
  have hf:jk fl r=true:=by simpa using h3
  refine WS.one (W1.extend (i:=2) (fs:=r.map .int) rfl (.inl rfl) rfl (nm 3 rfl rfl) rfl (by rw [ae,ae]; omega) ?_ ⟨rfl,rfl,rfl,rfl⟩)
  refine⟨?_, ?_⟩
  ·rw [eD,hr',uF,hall]
   simp [hf]
  ·rw [kZ hr',bo]
   exact⟨_,rfl⟩
 rintro ρ ⟨hall,a,rfl⟩
 rw [hlen,dh]at hall
 rw [hlen,dh]
 refine WS.one (W1.ret (av.cI .eq (av.lenSet rfl rfl B.len rfl B.set (A0 2 rfl rfl) (by omega)) (av.lenL rfl B.len (A0 2 rfl rfl))) ?_)
 show D.bl (decide (_=_))=D.bl (good fl rows)
 congr 1
 unfold good
 rw [decide_eq_true g1,hall,iz,gE,ae]
 apply decide_eq_decide.mpr
 rw [<-Fq]
 omega
theorem Bb:bL ["floor","value"] ["floor","value"] (aF pC):=⟨rfl,rfl,rfl,by decide +kernel,rfl,by decide +kernel,by decide +kernel⟩
abbrev sA(P:aq)(w:World)(K:Frag)(mg:Str->Option Value)(base:Heap)(CX:f9)(C:Addr):Prop:=
 lO P w K mg base CX 2 "is_stack" (fun i:dM×eU×Int=> [iK C i.1 i.2.1, .int i.2.2]) (fun _=>True) (fun i=> .ok (.bl (qM i.1 i.2.2)))
theorem y8{f:Addr}{fd:aV}(nx:NX CX)(L:Fl P w K mg base CX C)(G:nE P w K mg base CX)(F:jo K "is_stack" "is_stack" pC f fd)(hm:mg "is_stack"=some (.ref f))(hb:Binds K fd ["floor","value"] []):sA P w K mg base CX C:=by
 refine fg F Bb hm hb (fun i=>rfl) fun cdv A outer s H E i M0 hp hr=>⟨_,rfl, ?_⟩
 obtain⟨fl,qs,v⟩:=i
 change WS _ M0 H (ba pC) [.im (iK C fl qs), .im (.int v)] _
 exact WS.one (W1.ret (av.call G hr (aO nx) rfl (v,0,fl.st - 1) (aP.cons (nm 1 rfl rfl) (aP.cons av.int (aP.cons (av.sub (av.meth0 L.t.cl L.st hr (aO nx) (fl,qs) (nm 0 rfl rfl) rfl trivial rfl) av.int) aP.nil))) trivial rfl) rfl)
theorem pG{rows:Rows}{v:Int}(h0:0<=v)(h:v < rows.length):uk (bF true rows) v=some (xj true ((rowAt rows v).map .int)):=by
 have e:v=((v.toNat:Nat):Int):=by omega
 have hl:(bF true rows).length=rows.length:=ae ..
 rw [qa e (by rw [hl]; omega)]
 have:=jO h0 h
 unfold bF
 rw [aS]
 congr 3
 have h2:v.toNat < rows.length:=by omega
 rw [ai h2]at this
 exact aC this
theorem Iz:bL ["floor","standing","lift","source","target"] ["floor","standing","lift"] (aF HC):=⟨rfl,rfl,rfl,by decide +kernel,rfl,by decide +kernel,by decide +kernel⟩
abbrev IX(P:aq)(w:World)(K:Frag)(mg:Str->Option Value)(base:Heap)(CX:f9)(C:Addr):Prop:=
 lO P w K mg base CX 3 "can_be_done" (fun i:dM×eU×Rows×oi=> [iK C i.1 i.2.1, .tup (bF true i.2.2.1),tD i.2.2.2]) (fun i=>(i.2.2.1.length:Int)=i.1.st) (fun i=> .ok (.bl (oj i.1 i.2.2.1 i.2.2.2)))
theorem Jr{f:Addr}{fd:aV}(nx:NX CX)(B:Bm mg)(L:Fl P w K mg base CX C)(G1:sA P w K mg base CX C)(G2:nE P w K mg base CX)(F:jo K "can_be_done" "can_be_done" HC f fd)(hm:mg "can_be_done"=some (.ref f))(hb:Binds K fd ["floor","standing","lift"] []):IX P w K mg base CX C:=by
 refine fg F Iz hm hb (fun i=>rfl) fun cdv A outer s H E i M0 hp hr=>⟨_,rfl, ?_⟩
 obtain⟨fl,qs,rows,a,b,n⟩:=i
 have hl:(rows.length:Int)=fl.st:=hp
 have px:=Iz.nd
 have hr1:=hr.mono (show 1<=2 by decide)
 change WS _ M0 H (ba HC) [.im (iK C fl qs), .im (.tup (bF true rows)), .im (.tup [.int a, .int b, .int n]), .un, .un] {N:=fun _=>D.bl (oj fl rows (a,b,n))= .non,R:=fun d'=>d'= .bl (oj fl rows (a,b,n))}
 refine WS.cons (W1.ite (i5.t (i5.or (cG.not (cG.val (av.rC rfl B.rC rfl B.tuple (by decide +kernel) (.inr (.inr (.inr (.inl rfl)))) (av.r (nm 2 rfl rfl)) rfl))) fun _=>i5.or1 (cG.cI .ne (av.lenT rfl B.len (nm 2 rfl rfl)) av.int))) (fun h=> ?_) fun h=>WS.nil ?_)
 ·rw [o9]at h
  simp at h
 refine WS.cons (W1.set (i:=3) px rfl (.inl rfl) (gC rfl) (av.ixT (nm 2 rfl rfl) av.int rfl) ?_)
 refine WS.cons (W1.set (i:=4) px rfl (.inl rfl) (gC rfl) (av.ixT (nm 2 rfl rfl) av.int rfl) ?_)
 change WS _ M0 H _ [.im (iK C fl qs), .im (.tup (bF true rows)), .im (.tup [.int a, .int b, .int n]), .im (.int a), .im (.int b)] _
 refine WS.cons (W1.ite (i5.t (i5.or (cG.not (cG.val (av.call G1 hr (aO nx) rfl (fl,qs,a) (aP.cons (nm 0 rfl rfl) (aP.cons (nm 3 rfl rfl) aP.nil)) trivial rfl))) fun _=>i5.or (cG.not (cG.val (av.call G1 hr (aO nx) rfl (fl,qs,b) (aP.cons (nm 0 rfl rfl) (aP.cons (nm 4 rfl rfl) aP.nil)) trivial rfl))) fun _=>i5.or1 (cG.cI .eq (nm 3 rfl rfl) (nm 4 rfl rfl)))) (fun h=> ?_) fun h=>WS.nil ?_)
 ·refine WS.one (W1.ret av.bl ?_)
  show D.bl false=D.bl (oj fl rows (a,b,n))
  have:(qM fl a&&(qM fl b&& !decide (a=b)))=false:=by
   cases h1:qM fl a <;> cases h2:qM fl b <;> simp_all
  unfold oj
  rw [this,eX]
 ·have h3:(qM fl a&&(qM fl b&& !decide (a=b)))=true:=by
   cases h1:qM fl a <;> cases h2:qM fl b <;> simp_all
  have ha:0<=a/\a < rows.length:=by
   rw [bx]at h3
   have:=h3.1
   unfold qM at this
   simp only [bx,decide_eq_true_eq]at this
   omega
  refine WS.one (W1.ret (av.call G2 hr1 (aO nx) rfl (n,1,least fl.lf (rowAt rows a).length) (aP.cons (av.ixT (nm 2 rfl rfl) av.int rfl) (aP.cons av.int (aP.cons ?_ aP.nil))) trivial rfl) ?_)
  ·exact(av.to (L4 (i:=fl.lf) (j:=(rowAt rows a).length) rfl rfl B.min (av.meth0 L.t.cl L.lf hr1 (aO nx) (fl,qs) (nm 0 rfl rfl) rfl trivial rfl) (av.to (av.lenS (t:=true) rfl B.len (av.ixT (nm 1 rfl rfl) (nm 3 rfl rfl) (pG ha.1 ha.2))) (by rw [ae]))) rfl)
  show D.bl _=D.bl (oj fl rows (a,b,n))
  unfold oj
  rw [h3,iz]
end
theorem uS(rows:Rows)(i:Nat)(r:List Int):bF true (rows.set i r)=(bF true rows).set i (.tup (r.map .int)):=by
 unfold bF
 rw [List.map_set]
 rfl
structure I_(rows:Rows)(t:oi):Prop where
 a0:0<=t.1
 a1:t.1 < rows.length
 b0:0<=t.2.1
 b1:t.2.1 < rows.length
 n0:0<=t.2.2
 nr:t.2.2<=(rowAt rows t.1).length
 sm:Small rows
theorem IC.mvOk{f:dM}{rows:Rows}{t:oi}(h:IC f rows t)(hl:(rows.length:Int)=f.st)(sm:Small rows):I_ rows t:=⟨h.a0,by have:=h.a1; omega,h.b0,by have:=h.b1; omega,by have:=h.n1; omega,h.nr,sm⟩
theorem Fp{f:dM}{rows:Rows}{t:oi}(hl:(rows.length:Int)=f.st)(h:IC f rows t)(sm:Small rows):Small (mv rows t):=⟨by rw [(An hl h).length_eq]; exact sm.fl,by rw [Dg]; exact sm.n⟩
theorem va{rows:Rows}{v:Int}(h0:0<=v)(h:v < rows.length):(rowAt rows v).length<=rows.flatten.length:=kl (aW (jO h0 h))
section
variable {P:aq}{w:World}{K:Frag}{mg:Str->Option Value}{base:Heap}{CX:f9}{C:Addr}
theorem AO:bL ["standing","lift","source","target","left","stacks"] ["standing","lift"] (aF vH):=⟨rfl,rfl,rfl,by decide +kernel,rfl,by decide +kernel,by decide +kernel⟩
abbrev p_(P:aq)(w:World)(K:Frag)(mg:Str->Option Value)(base:Heap)(CX:f9):Prop:=
 lO P w K mg base CX 1 "moved" (fun i:Rows×oi=> [.tup (bF true i.1),tD i.2]) (fun i=>I_ i.1 i.2) (fun i=> .ok (.tup (bF true (mv i.1 i.2))))
theorem DH{f:Addr}{fd:aV}(B:Bm mg)(F:jo K "moved" "moved" vH f fd)(hm:mg "moved"=some (.ref f))(hb:Binds K fd ["standing","lift"] []):p_ P w K mg base CX:=by
 refine fg F AO hm hb (fun i=>rfl) fun cdv A outer s H E i M0 hp hr=>⟨_,rfl, ?_⟩
 obtain⟨rows,a,b,n⟩:=i
 obtain⟨a0,a1,b0,b1,n0,nr,sm⟩:=(hp:I_ rows (a,b,n))
 dsimp only at a0 a1 b0 b1 n0 nr
 have px:=AO.nd
 have hl:(bF true rows).length=rows.length:=ae ..
 have ra:=va a0 a1
 have rb:=va b0 b1
 have sf:rows.flatten.length<=1000:=sm.fl
 have ek:((rowAt rows a).length:Int) - n=(((rowAt rows a).length - n.toNat:Nat):Int):=by omega
 change WS _ M0 H (ba vH) [.im (.tup (bF true rows)), .im (.tup [.int a, .int b, .int n]), .un, .un, .un, .un] {N:=fun _=>D.tup (bF true (mv rows (a,b,n)))= .non,R:=fun d'=>d'= .tup (bF true (mv rows (a,b,n)))}
 refine WS.cons (W1.set (i:=2) px rfl (.inl rfl) (gC rfl) (av.ixT (nm 1 rfl rfl) av.int rfl) ?_)
 refine WS.cons (W1.set (i:=3) px rfl (.inl rfl) (gC rfl) (av.ixT (nm 1 rfl rfl) av.int rfl) ?_)
 refine WS.cons (W1.set (i:=4) px rfl (.inl rfl) (gC rfl) (av.to (av.sub (av.lenS (t:=true) rfl B.len (av.ixT (nm 0 rfl rfl) (nm 2 rfl rfl) (pG a0 a1))) (av.ixT (nm 1 rfl rfl) av.int rfl)) (by rw [ae,ek])) ?_)
 refine WS.cons (W1.setF (i:=5) px rfl (.inl rfl) (gC rfl) (dP.listT rfl B.list (nm 0 rfl rfl)) ?_)
 change WS _ M0 H _ [.im (.tup (bF true rows)), .im (.tup [.int a, .int b, .int n]), .im (.int a), .im (.int b), .im (.int (((rowAt rows a).length - n.toNat:Nat):Int)), .mu (bF true rows)] _
 refine WS.cons (W1.setIx (i:=5) (n:=a.toNat) rfl (.inl rfl) rfl (av.to (av.cutT (av.ixT (nm 0 rfl rfl) (nm 2 rfl rfl) (pG a0 a1)) yU.none (yU.some (nm 4 rfl rfl))) (d':= .tup (((rowAt rows a).take ((rowAt rows a).length - n.toNat)).map .int)) (by rw [Jb (by rw [ae]; omega),List.map_take])) (nm 2 rfl rfl) (by omega) (by rw [hl]; omega) ?_)
 dsimp only
 rw [<-uS]
 change WS _ M0 H _ [.im (.tup (bF true rows)), .im (.tup [.int a, .int b, .int n]), .im (.int a), .im (.int b), .im (.int (((rowAt rows a).length - n.toNat:Nat):Int)), .mu (bF true (rows.set a.toNat ((rowAt rows a).take ((rowAt rows a).length - n.toNat))))] _
 refine WS.cons (W1.setIx (i:=5) (n:=b.toNat) rfl (.inl rfl) rfl (av.to (av.catT (av.ixT (nm 0 rfl rfl) (nm 3 rfl rfl) (pG b0 b1)) (av.cutT (av.ixT (nm 0 rfl rfl) (nm 2 rfl rfl) (pG a0 a1)) (yU.some (nm 4 rfl rfl)) yU.none) ?_) (d':= .tup ((rowAt rows b ++ (rowAt rows a).drop ((rowAt rows a).length - n.toNat)).map .int)) ?_) (nm 3 rfl rfl) (by omega) ?_ ?_)
 ·rw [Eo (by rw [ae]; omega),ae,bw,ae]
  omega
 ·rw [Eo (by rw [ae]; omega),bo,List.map_drop]
 ·show b.toNat < ((rows.set a.toNat _).map _).length
  rw [ae,bA]
  omega
 dsimp only
 rw [<-uS]
 exact WS.one (W1.ret (av.tupleL rfl B.tuple (A0 5 rfl rfl)) rfl)
theorem HR:bL ["floor","standing","lift"] ["floor","standing","lift"] (aF vW):=⟨rfl,rfl,rfl,by decide +kernel,rfl,by decide +kernel,by decide +kernel⟩
structure Ec(f:dM)(qs:eU)(rows:Rows):Prop where
 s:fZ f qs
 l:(rows.length:Int)=f.st
 sm:Small rows
abbrev zN(P:aq)(w:World)(K:Frag)(mg:Str->Option Value)(base:Heap)(CX:f9)(C:Addr):Prop:=
 lO P w K mg base CX 5 "is_let" (fun i:dM×eU×Rows×oi=> [iK C i.1 i.2.1, .tup (bF true i.2.2.1),tD i.2.2.2]) (fun i=>Ec i.1 i.2.1 i.2.2.1) (fun i=> .ok (.bl (isLet i.1 i.2.2.1 i.2.2.2)))
theorem DR{f:Addr}{fd:aV}(nx:NX CX)(G1:IX P w K mg base CX C)(G2:rj P w K mg base CX C)(G3:p_ P w K mg base CX)(F:jo K "is_let" "is_let" vW f fd)(hm:mg "is_let"=some (.ref f))(hb:Binds K fd ["floor","standing","lift"] []):zN P w K mg base CX C:=by
 refine fg F HR hm hb (fun i=>rfl) fun cdv A outer s H E i M0 hp hr=>⟨_,rfl, ?_⟩
 obtain⟨fl,qs,rows,t⟩:=i
 obtain⟨hS,hl,sm⟩:=(hp:Ec fl qs rows)
 change WS _ M0 H (ba vW) [.im (iK C fl qs), .im (.tup (bF true rows)), .im (tD t)] {N:=fun _=>D.bl (isLet fl rows t)= .non,R:=fun d'=>d'= .bl (isLet fl rows t)}
 refine WS.one (W1.ret (av.and (av.call G1 (hr.mono (by decide)) (aO nx) rfl (fl,qs,rows,t) (aP.cons (nm 0 rfl rfl) (aP.cons (nm 1 rfl rfl) (aP.cons (nm 2 rfl rfl) aP.nil))) hl rfl) fun hc=>av.one (av.call G2 hr (aO nx) rfl (fl,qs,mv rows t) (aP.cons (nm 0 rfl rfl) (aP.cons (av.call G3 (hr.mono (by decide)) (aO nx) rfl (rows,t) (aP.cons (nm 1 rfl rfl) (aP.cons (nm 2 rfl rfl) aP.nil)) ((mZ.mp hc).mvOk hl sm) rfl) aP.nil)) ⟨hS,Fp hl (mZ.mp hc) sm⟩ rfl)) rfl)
structure uu(f:dM)(qs:eU)(rows:Rows):Prop where
 s:fZ f qs
 g:good f rows=true
theorem uu.sm{f:dM}{qs:eU}{rows:Rows}(h:uu f qs rows):Small rows:=by
 have h1:=ow h.g h.s.ok.st.2 h.s.ok.ht.2
 have h2:=gH h.g
 have h3:=h.s.ok.st.2
 exact⟨by omega,by omega⟩
theorem uu.le{f:dM}{qs:eU}{rows:Rows}(h:uu f qs rows):Ec f qs rows:=⟨h.s,gH h.g,h.sm⟩
theorem Fs:bL ["floor","standing"] ["floor","standing"] (aF pB):=⟨rfl,rfl,rfl,by decide +kernel,rfl,by decide +kernel,by decide +kernel⟩
abbrev HS(P:aq)(w:World)(K:Frag)(mg:Str->Option Value)(base:Heap)(CX:f9)(C:Addr):Prop:=
 lO P w K mg base CX 5 "refuse_unless_good" (fun i:dM×eU×Rows=> [iK C i.1 i.2.1, .tup (bF true i.2.2)]) (fun i=>uu i.1 i.2.1 i.2.2) (fun i=> .ok .non)
def HJ(a b k:Nat):oi:=((0:Int)+(a:Int),(0:Int)+(b:Int),(1:Int)+(k:Int))
def Be(f:dM)(rows:Rows)(a b n:Nat):List oi:=((bD n).map (HJ a b)).filter (isLet f rows)
def A7(f:dM)(rows:Rows)(a m:Nat):List oi:=(bD m).flatMap fun b=>Be f rows a b f.lf.toNat
def B6(f:dM)(rows:Rows)(m:Nat):List oi:=(bD m).flatMap fun a=>A7 f rows a f.st.toNat
def lets(f:dM)(rows:Rows):List oi:=B6 f rows f.st.toNat
theorem xV(f:dM)(rows:Rows)(a b n:Nat):Be f rows a b (n+1)=Be f rows a b n ++ (if isLet f rows (HJ a b n)then [HJ a b n]else []):=by
 unfold Be
 rw [nQ,bo,FY]
 congr 1
 show List.filter _ [HJ a b n]=_
 rw [List.filter_cons]
 rfl
theorem yj(f:dM)(rows:Rows)(a m:Nat):A7 f rows a (m+1)=A7 f rows a m ++ Be f rows a m f.lf.toNat:=by
 unfold A7
 rw [nQ,List.flatMap_append]
 simp
theorem xp(f:dM)(rows:Rows)(m:Nat):B6 f rows (m+1)=B6 f rows m ++ A7 f rows m f.st.toNat:=by
 unfold B6
 rw [nQ,List.flatMap_append]
 simp
theorem AY(f:dM)(rows:Rows)(a b n:Nat):(Be f rows a b n).length<=n:=by
 unfold Be
 exact bu (List.length_filter_le _ _) (by rw [ae,cg]; exact ay _)
theorem vK(f:dM)(rows:Rows)(a:Nat): ∀m,(A7 f rows a m).length<=f.lf.toNat * m
 | 0=>by simp [A7]
 | m+1=>by
  have h1:=vK f rows a m
  have h2:=AY f rows a m f.lf.toNat
  rw [yj,ao,Nat.mul_succ]
  omega
theorem vy(f:dM)(rows:Rows): ∀m,(B6 f rows m).length<=f.lf.toNat * f.st.toNat * m
 | 0=>by simp [B6]
 | m+1=>by
  have h1:=vy f rows m
  have h2:=vK f rows m f.st.toNat
  rw [xp,ao,Nat.mul_succ]
  omega
theorem Ez{f:dM}{rows:Rows}{t:oi}(h1:0<=f.st)(h2:0<=f.lf):t∈lets f rows↔isLet f rows t=true:=by
 unfold lets B6 A7 Be
 simp only [Ih,gS,nK,a9]
 constructor
 ·rintro⟨a,_,b,_,_,h⟩
  exact h
 ·intro h
  have hc:IC f rows t:=mZ.mp (by unfold isLet at h; rw [bx]at h; exact h.1)
  obtain⟨a0,a1,b0,b1,ne,n1,nl,nr⟩:=hc
  obtain⟨a,b,n⟩:=t
  dsimp only at *
  refine⟨a.toNat,by omega,b.toNat,by omega,⟨(n - 1).toNat,by omega, ?_⟩,h⟩
  unfold HJ
  have e1:(0:Int)+(a.toNat:Int)=a:=by omega
  have e2:(0:Int)+(b.toNat:Int)=b:=by omega
  have e3:(1:Int)+((n - 1).toNat:Int)=n:=by omega
  rw [e1,e2,e3]
theorem AM:bL ["floor","standing","found","source","target","many","lift"] ["floor","standing"] (aF sr):=⟨rfl,rfl,rfl,by decide +kernel,rfl,by decide +kernel,by decide +kernel⟩
abbrev vx(P:aq)(w:World)(K:Frag)(mg:Str->Option Value)(base:Heap)(CX:f9)(C:Addr):Prop:=
 lO P w K mg base CX 6 "lifts" (fun i:dM×eU×Rows=> [iK C i.1 i.2.1, .tup (bF true i.2.2)]) (fun i=>uu i.1 i.2.1 i.2.2) (fun i=> .ok (.lst ((lets i.1 i.2.2).map tD)))
end
section
variable {P:aq}{w:World}{K:Frag}{mg:Str->Option Value}{base:Heap}{C CS CL:Addr}
abbrev jS(P:aq)(w:World)(K:Frag)(mg:Str->Option Value)(base:Heap)(C CS:Addr):Prop:=
 lO P w K mg base (gI P w) 5 "refuse_unless_good" (fun i:dM×eU×Rows=> [iK C i.1 i.2.1, .tup (bF true i.2.2)]) (fun i=>fZ i.1 i.2.1/\Small i.2.2) (fun i=>if good i.1 i.2.2 then .ok .non else .error CS)
theorem ze{f:Addr}{fd:aV}(er:ym "NoStanding" CS mg base)(G:rj P w K mg base (gI P w) C)(F:jo K "refuse_unless_good" "refuse_unless_good" pB f fd)(hm:mg "refuse_unless_good"=some (.ref f))(hb:Binds K fd ["floor","standing"] []):jS P w K mg base C CS:=by
 refine nq F Fs hm hb (fun i=>rfl) fun cdv A outer s H E i M0 hp hr=> ?_
 obtain⟨fl,qs,rows⟩:=i
 obtain⟨hS,sm⟩:fZ fl qs/\Small rows:=hp
 have nx:NX (gI P w):=kA
 by_cases hg:good fl rows=true
 ·refine .inl ⟨.non,if_pos hg, ?_⟩
  change WS _ M0 H (ba pB) [.im (iK C fl qs), .im (.tup (bF true rows))] {N:=fun _=>D.non= .non,R:=fun d'=>d'= .non}
  refine WS.one (W1.ite (cG.not (cG.val (av.call G hr (aO nx) rfl (fl,qs,rows) (aP.cons (nm 0 rfl rfl) (aP.cons (nm 1 rfl rfl) aP.nil)) ⟨hS,sm⟩ rfl))) (fun h=> ?_) fun h=>WS.nil rfl)
  rw [hg]at h
  cases h
 ·refine .inr ⟨CS,if_neg hg, ?_⟩
  change fB _ [.im (iK C fl qs), .im (.tup (bF true rows))] E (ba pB) CS
  refine fB.here (uB.ite (t:=true) (cG.to (cG.not (cG.val (av.call G hr (aO nx) rfl (fl,qs,rows) (aP.cons (nm 0 rfl rfl) (aP.cons (nm 1 rfl rfl) aP.nil)) ⟨hS,sm⟩ rfl))) (by simp [hg])) (fun _=>fB.here (uB.raise er rfl av.str)) fun h=>by cases h)
end
theorem yz{P:aq}{w:World}{K:Frag}{mg:Str->Option Value}{base:Heap}{CX:f9}{k:Nat}{x:Str}{ι:Type}{args:ι->List D}{pre pre':ι->Prop}{res res':ι->Except Addr D}(F:lO P w K mg base CX k x args pre res)(h: ∀i,pre' i->pre i/\res i=res' i):lO P w K mg base CX k x args pre' res':=by
 obtain⟨f,fd,ps,F,r⟩:=F.ex
 refine⟨f,fd,ps,F.imp fun vs H Q E ⟨i,M0,hM,d,hp,k1,k2⟩=> ?_,r⟩
 obtain⟨p,e⟩:=h i hp
 exact⟨i,M0,hM,d,p,by rw [e]; exact k1,by rw [e]; exact k2⟩
section
variable {P:aq}{w:World}{K:Frag}{mg:Str->Option Value}{base:Heap}{C CS CL:Addr}
theorem yr(G:jS P w K mg base C CS):HS P w K mg base (gI P w) C:=yz G fun i h=>⟨⟨h.s,h.sm⟩,if_pos h.g⟩
abbrev vT(P:aq)(w:World)(K:Frag)(mg:Str->Option Value)(base:Heap)(C CS:Addr):Prop:=
 lO P w K mg base (gI P w) 6 "lifts" (fun i:dM×eU×Rows=> [iK C i.1 i.2.1, .tup (bF true i.2.2)]) (fun i=>fZ i.1 i.2.1/\Small i.2.2) (fun i=>if good i.1 i.2.2 then .ok (.lst ((lets i.1 i.2.2).map tD))else .error CS)
theorem BJ{f:Addr}{fd:aV}(B:Bm mg)(L:Fl P w K mg base (gI P w) C)(GX:jS P w K mg base C CS)(G2:zN P w K mg base (gI P w) C)(F:jo K "lifts" "lifts" sr f fd)(hm:mg "lifts"=some (.ref f))(hb:Binds K fd ["floor","standing"] []):vT P w K mg base C CS:=by
 have nx:NX (gI P w):=kA
 have G1:=yr GX
 refine nq F AM hm hb (fun i=>rfl) fun cdv A outer s H E i M0 hp hr=> ?_
 obtain⟨fl,qs,rows⟩:=i
 obtain⟨hS,sm⟩:fZ fl qs/\Small rows:=hp
 by_cases hgd:good fl rows=true
 ·refine .inl ⟨_,if_pos hgd, ?_⟩
  have hg:uu fl qs rows:=⟨hS,hgd⟩
  have px:=AM.nd
  have hr1:=hr.mono (show 1<=5 by decide)
  have st:=hg.s.ok.st
  have lf:=hg.s.ok.lf
  have lft:fl.lf.toNat<=3:=by omega
  have stt:fl.st.toNat<=4:=by omega
  have b1:fl.lf.toNat * fl.st.toNat<=12:=o6 lft stt
  change WS _ M0 H (ba sr) [.im (iK C fl qs), .im (.tup (bF true rows)), .un, .un, .un, .un, .un] {N:=fun _=>D.lst ((lets fl rows).map tD)= .non,R:=fun d'=>d'= .lst ((lets fl rows).map tD)}
  refine WS.cons (W1.expr (av.call G1 hr (aO nx) rfl (fl,qs,rows) (aP.cons (nm 0 rfl rfl) (aP.cons (nm 1 rfl rfl) aP.nil)) hg rfl) ?_)
  refine WS.cons (W1.setF (i:=2) px rfl (.inl rfl) (gC rfl) (dP.lst aP.nil) ?_)
  refine WS.cons (W1.for (ds:=kB 0 fl.st.toNat) (fun i ρ=> ∃a b c d,ρ= [.im (iK C fl qs), .im (.tup (bF true rows)), .mu ((B6 fl rows i).map tD),a,b,c,d]) cp rfl (ky.range rfl B.range (av.meth0 L.t.cl L.st hr1 (aO nx) (fl,qs) (nm 0 rfl rfl) rfl trivial rfl) (by omega)) ⟨_,_,_,_,rfl⟩ ?_ ?_)
  ·rintro i d ρ hd ⟨a,b,c,d',rfl⟩
   obtain⟨rfl,hi⟩:=jV hd
   have hl1:=vy fl rows i
   have b2:fl.lf.toNat * fl.st.toNat * i<=12 * 4:=o6 b1 (by omega)
   refine⟨_,A1.name (i:=3) px rfl (.inl rfl) (gC rfl), ?_⟩
   refine WS.one (W1.for (ds:=kB 0 fl.st.toNat) (fun j ρ=> ∃b c d,ρ= [.im (iK C fl qs), .im (.tup (bF true rows)), .mu ((B6 fl rows i ++ A7 fl rows i j).map tD), .im (.int (0+(i:Int))),b,c,d]) cp rfl (ky.range rfl B.range (av.meth0 L.t.cl L.st hr1 (aO nx) (fl,qs) (nm 0 rfl rfl) rfl trivial rfl) (by omega)) ⟨_,_,_,by rw [show A7 fl rows i 0= []from rfl,aZ]; rfl⟩ ?_ ?_)
   ·rintro j d ρ hd ⟨b,c,d',rfl⟩
    obtain⟨rfl,hj⟩:=jV hd
    have hl2:=vK fl rows i j
    have b3:fl.lf.toNat * j<=3 * 4:=o6 lft (by omega)
    refine⟨_,A1.name (i:=4) px rfl (.inl rfl) (gC rfl), ?_⟩
    refine WS.one (W1.for (ds:=kB 1 fl.lf.toNat) (fun k ρ=> ∃c d,ρ= [.im (iK C fl qs), .im (.tup (bF true rows)), .mu ((B6 fl rows i ++ A7 fl rows i j ++ Be fl rows i j k).map tD), .im (.int (0+(i:Int))), .im (.int (0+(j:Int))),c,d]) cp rfl
     (ky.to (ky.range2 (i:=1) (j:=fl.lf+1) rfl B.range av.int (av.add (av.meth0 L.t.cl L.lf hr1 (aO nx) (fl,qs) (nm 0 rfl rfl) rfl trivial rfl) av.int) (by omega)) (by congr 1; omega)) ⟨_,_,by rw [show Be fl rows i j 0= []from rfl,aZ]; rfl⟩ ?_ ?_)
    ·rintro k d ρ hd ⟨c,d',rfl⟩
     obtain⟨rfl,hk⟩:=jV hd
     have hl3:=AY fl rows i j k
     refine⟨_,A1.name (i:=5) px rfl (.inl rfl) (gC rfl), ?_⟩
     refine WS.cons (W1.set (i:=6) px rfl (.inl rfl) (gC rfl) (av.tup (aP.cons (nm 3 rfl rfl) (aP.cons (nm 4 rfl rfl) (aP.cons (nm 5 rfl rfl) aP.nil)))) ?_)
     change WS _ M0 H _ [.im (iK C fl qs), .im (.tup (bF true rows)), .mu ((B6 fl rows i ++ A7 fl rows i j ++ Be fl rows i j k).map tD), .im (.int (0+(i:Int))), .im (.int (0+(j:Int))), .im (.int (1+(k:Int))), .im (tD (HJ i j k))] _
     refine WS.one (W1.ite (cG.val (av.call G2 hr (aO nx) rfl (fl,qs,rows,HJ i j k) (aP.cons (nm 0 rfl rfl) (aP.cons (nm 1 rfl rfl) (aP.cons (nm 6 rfl rfl) aP.nil))) hg.le rfl)) (fun h=> ?_) fun h=>WS.nil ?_)
     ·refine WS.one (W1.append (i:=2) rfl (.inl rfl) rfl (nm 6 rfl rfl) (by rw [ae,ao,ao]; omega) ?_ ⟨rfl,rfl,rfl,rfl⟩)
      have e:(B6 fl rows i ++ A7 fl rows i j ++ Be fl rows i j (k+1)).map tD=(B6 fl rows i ++ A7 fl rows i j ++ Be fl rows i j k).map tD ++ [tD (HJ i j k)]:=by
       rw [xV,if_pos h, <-aM,bo (l₂:= [HJ i j k])]
       rfl
      exact⟨_,_,by rw [e]; rfl⟩
     ·dsimp only
      rw [xV,if_neg (by rw [h]; exact aA),aZ]
      exact⟨_,_,rfl⟩
    ·rintro ρ ⟨c,d,rfl⟩
     rw [g6]
     dsimp only
     rw [yj, <-aM]
     exact⟨_,_,_,rfl⟩
   ·rintro ρ ⟨b,c,d,rfl⟩
    rw [g6]
    dsimp only
    rw [xp]
    exact⟨_,_,_,_,rfl⟩
  ·rintro ρ ⟨a,b,c,d,rfl⟩
   rw [g6]
   exact WS.freeze (i:=2) rfl (WS.one (W1.ret (nm 2 rfl rfl) rfl))
 ·refine .inr ⟨CS,if_neg hgd, ?_⟩
  change fB _ [.im (iK C fl qs), .im (.tup (bF true rows)), .un, .un, .un, .un, .un] E (ba sr) CS
  exact fB.here (uB.expr (Ea.call (i:=(fl,qs,rows)) GX hr kn rfl (aP.cons (nm 0 rfl rfl) (aP.cons (nm 1 rfl rfl) aP.nil)) ⟨hS,sm⟩ (if_neg hgd)))
end
def bk(t:oi):oi:=(t.2.1,t.1,t.2.2)
theorem mL{rows:Rows}{v:Int}{r:List Int}(h0:0<=v)(h:v < rows.length):rowAt (rows.set v.toNat r) v=r:=by
 unfold rowAt
 rw [aG,fx,if_pos rfl,if_pos (by omega)]
 rfl
theorem v_{rows:Rows}{i:Nat}{v:Int}{r:List Int}(h:i≠v.toNat):rowAt (rows.set i r) v=rowAt rows v:=by
 unfold rowAt
 rw [aG,fx,if_neg h,aG]
theorem DZ{f:dM}{rows:Rows}{t:oi}(hg:good f rows=true)(h:isLet f rows t=true):isLet f (mv rows t) (bk t)=true/\mv (mv rows t) (bk t)=rows:=by
 have hl:=gH hg
 have hc:IC f rows t:=mZ.mp (by unfold isLet at h; rw [bx]at h; exact h.1)
 obtain⟨a0,a1,b0,b1,ne,n1,nl,nr⟩:=hc
 obtain⟨a,b,n⟩:=t
 dsimp only at a0 a1 b0 b1 ne n1 nl nr
 have ha:a < rows.length:=by omega
 have hb:b < rows.length:=by omega
 have hne:a.toNat≠b.toNat:=by omega
 have eR:mv rows (a,b,n)=(rows.set a.toNat ((rowAt rows a).take ((rowAt rows a).length - n.toNat))).set b.toNat (rowAt rows b ++ (rowAt rows a).drop ((rowAt rows a).length - n.toNat)):=rfl
 have e1:rowAt (mv rows (a,b,n)) b=rowAt rows b ++ (rowAt rows a).drop ((rowAt rows a).length - n.toNat):=by
  rw [eR]
  exact mL b0 (by rw [bA]; exact hb)
 have e2:rowAt (mv rows (a,b,n)) a=(rowAt rows a).take ((rowAt rows a).length - n.toNat):=by
  rw [eR,v_ hne.symm,mL a0 ha]
 have l1:(rowAt (mv rows (a,b,n)) b).length - n.toNat=(rowAt rows b).length:=by
  rw [e1,ao,bw]
  omega
 have e3:mv (mv rows (a,b,n)) (bk (a,b,n))=rows:=by
  show(((mv rows (a,b,n)).set b.toNat ((rowAt (mv rows (a,b,n)) b).take ((rowAt (mv rows (a,b,n)) b).length - n.toNat))).set a.toNat (rowAt (mv rows (a,b,n)) a ++ (rowAt (mv rows (a,b,n)) b).drop ((rowAt (mv rows (a,b,n)) b).length - n.toNat)))=rows
  rw [l1,e1,e2,List.take_left,List.drop_left,aU,eR,List.set_set,List.set_comm _ _ hne,List.set_set,pE (jO b0 hb),pE (jO a0 ha)]
 refine⟨?_,e3⟩
 unfold isLet
 rw [e3,hg,gE]
 refine mZ.mpr ⟨b0,b1,a0,a1,fun z=>ne z.symm,n1,nl, ?_⟩
 show n<=((rowAt (mv rows (a,b,n)) b).length:Int)
 rw [e1,ao,bw]
 omega
abbrev rT(rows:Rows):D:= .tup (bF true rows)
theorem nH(n:Nat)(l:List Int):D.flat (n+1) (.lst (l.map .int)):=fun d hd=>by
 obtain⟨i,_,rfl⟩:=a9.mp hd
 cases n <;> exact cN
theorem r9(ns:List Int)(first:Nat): ∀k,(gw ns first 7 k).all pL=true
 | 0=>rfl
 | k+1=>by
  have ih:=r9 ns first k
  unfold gw
  dsimp only
  split
  ·exact ih
  ·rename_i hne
   rw [uF,ih,iz]
   simp only [List.all_cons,List.all_nil,gE]
   unfold pL jD
   dsimp only
   have h1:=iD (cellAt ns (first+1+k)) (show((7:Nat):Int)≠0 by decide)
   have h2:=gq (cellAt ns (first+1+k)) (show(0:Int) < ((7:Nat):Int) by decide)
   have h3:=iD (cellAt ns (first+1+k) / ((7:Nat):Int)) (show((7:Nat):Int)≠0 by decide)
   have h4:=gq (cellAt ns (first+1+k) / ((7:Nat):Int)) (show(0:Int) < ((7:Nat):Int) by decide)
   rw [decide_eq_true h1,decide_eq_true h3,decide_eq_false hne,decide_eq_true (by omega),decide_eq_true (by omega)]
   rfl
theorem GQ(ns:List Int):uy (sj ns 0 7):=by
 refine⟨?_, ?_, ?_, ?_,r9 ns 0 _⟩
 ·show 2<=2+_ % 3/\2+_ % 3<=4
  omega
 ·show 1<=1+_ % 6/\1+_ % 6<=6
  omega
 ·show 1<=1+_ % 3/\1+_ % 3<=3
  omega
 ·have:=mI ns 0 7 (cellAt ns 0 / 72 % 5).toNat
  have h2:(cellAt ns 0 / 72 % 5).toNat<=4:=by omega
  exact bu this h2
section
variable {P:aq}{w:World}{K:Frag}{mg:Str->Option Value}{base:Heap}{CX:f9}{C:Addr}
theorem yx:bL ["standing","found","stack"] ["standing"] (aF rd):=⟨rfl,rfl,rfl,by decide +kernel,rfl,by decide +kernel,by decide +kernel⟩
abbrev wD(P:aq)(w:World)(K:Frag)(mg:Str->Option Value)(base:Heap)(CX:f9):Prop:=
 lO P w K mg base CX 1 "_law_crates" (fun rows:Rows=> [rT rows]) (fun rows=>rows.flatten.length < 64) (fun rows=> .ok (.lst ((mQ rows.flatten).map .int)))
theorem BX{f:Addr}{fd:aV}(B:Bm mg)(F:jo K "_law_crates" "_law_crates" rd f fd)(hm:mg "_law_crates"=some (.ref f))(hb:Binds K fd ["standing"] []):wD P w K mg base CX:=by
 refine fg F yx hm hb (fun i=>rfl) fun cdv A outer s H E rows M0 hp hr=>⟨_,rfl, ?_⟩
 have hp':rows.flatten.length < 64:=hp
 have px:=yx.nd
 have hlen:(bF true rows).length=rows.length:=ae ..
 change WS _ M0 H (ba rd) [.im (rT rows), .un, .un] _
 refine WS.cons (W1.setF (i:=1) px rfl (.inl rfl) (gC rfl) (dP.lst aP.nil) ?_)
 refine WS.cons (W1.for (ds:=bF true rows) (fun i ρ=> ∃a,ρ= [.im (rT rows), .mu ((rows.take i).flatten.map .int),a]) cp rfl (ky.tup (nm 0 rfl rfl)) ⟨_,by rw [gU]; rfl⟩ ?_ ?_)
 ·rintro i d ρ hd ⟨a,rfl⟩
  obtain⟨r,hr',rfl⟩:=iu hd
  have l1:=ji rows i
  have l2:=kl (aW hr')
  refine⟨_,A1.name (i:=2) px rfl (.inl rfl) (gC rfl), ?_⟩
  refine WS.one (W1.extend (i:=1) (fs:=r.map .int) rfl (.inl rfl) rfl (dP.toD (dP.listS (t:=true) rfl B.list (nm 2 rfl rfl))) rfl (by rw [ae,ae]; omega) ?_ ⟨rfl,rfl,rfl,rfl⟩)
  dsimp only
  rw [kZ hr',bo]
  exact⟨_,rfl⟩
 rintro ρ ⟨a,rfl⟩
 rw [hlen,dh]
 exact WS.one (W1.ret (dP.toD (dP.sortedI rfl B.sorted (A0 1 rfl rfl) hp')) rfl)
end
end K
namespace Z
section
variable {α:Type} [DecidableEq α]
def visit(h:Int)(kv:List (α×Int))(k:α):List (α×Int):=if k∈kv.map (·.1)then kv else kv ++ [(k,h+1)]
def oh(nb:α->List α)(kv:List (α×Int))(d:Nat):List (α×Int):=match kv[d]? with
 | some (k,h)=>(nb k).foldl (visit h) kv
 | none=>kv
def Hg(nb:α->List α):Nat->List (α×Int)->Nat->List (α×Int)
 | 0,kv,_=>kv
 | n+1,kv,d=>if d < kv.length then Hg nb n (oh nb kv d) (d+1)else kv
variable {nb:α->List α}{g:α}
structure BI(nb:α->List α)(g:α)(kv:List (α×Int))(d:Nat):Prop where
 fst:kv[0]? =some (g,0)
 nd:(kv.map (·.1)).Nodup
 par: ∀(j:Nat) k h,kv[j]? =some (k,h)->0 < j-> ∃i k' h',i < j/\i < d/\kv[i]? =some (k',h')/\k∈nb k'/\h=h'+1
 Gv: ∀(i:Nat) k h,i < d->kv[i]? =some (k,h)-> ∀k'∈nb k, ∃h',(k',h')∈kv/\h'<=h+1
 asc: ∀(i j:Nat) k h k' h',i<=j->kv[i]? =some (k,h)->kv[j]? =some (k',h')->h<=h'
 top: ∀(i:Nat) k h k' h',d<=i->kv[i]? =some (k,h)->(k',h')∈kv->h'<=h+1
theorem BI.start:BI nb g [(g,0)] 0:=by
 refine⟨rfl,by simp,fun j k h e hj=> ?_,fun i k h hi=>absurd hi (by omega),fun i j k h k' h' hij e1 e2=> ?_,fun i k h k' h' _ e1 e2=> ?_⟩
 ·rw [bq (by simp; omega)]at e; cases e
 ·have h1:i=0:=by
   rcases kY i with z | z
   ·exact z
   ·rw [bq (by simp; omega)]at e1; cases e1
  have h2:j=0:=by
   rcases kY j with z | z
   ·exact z
   ·rw [bq (by simp; omega)]at e2; cases e2
  subst h1 h2
  rw [e1]at e2
  cases e2
  exact Cv _
 ·have h1:i=0:=by
   rcases kY i with z | z
   ·exact z
   ·rw [bq (by simp; omega)]at e1; cases e1
  subst h1
  cases e1
  have:(k',h')=(g,0):=by simpa using e2
  cases this
  decide
structure BM(nb:α->List α)(g:α)(kv:List (α×Int))(d:Nat)(k0:α)(h0:Int)(l:List α):Prop where
 fst:kv[0]? =some (g,0)
 nd:(kv.map (·.1)).Nodup
 at_:kv[d]? =some (k0,h0)
 par: ∀(j:Nat) k h,kv[j]? =some (k,h)->0 < j-> ∃i k' h',i < j/\i < d+1/\kv[i]? =some (k',h')/\k∈nb k'/\h=h'+1
 Gv: ∀(i:Nat) k h,i < d->kv[i]? =some (k,h)-> ∀k'∈nb k, ∃h',(k',h')∈kv/\h'<=h+1
 now: ∀k'∈l, ∃h',(k',h')∈kv/\h'<=h0+1
 asc: ∀(i j:Nat) k h k' h',i<=j->kv[i]? =some (k,h)->kv[j]? =some (k',h')->h<=h'
 top: ∀k' h',(k',h')∈kv->h'<=h0+1
theorem BM.visit{kv:List (α×Int)}{d:Nat}{k0:α}{h0:Int}{l:List α}(b:BM nb g kv d k0 h0 l){k:α}(hk:k∈nb k0):BM nb g (visit h0 kv k) d k0 h0 (l ++ [k]):=by
 unfold Z.visit
 by_cases e:k∈kv.map (·.1)
 ·rw [if_pos e]
  refine⟨b.fst,b.nd,b.at_,b.par,b.Gv,fun k' hk'=> ?_,b.asc,b.top⟩
  rcases bE.mp hk' with z | z
  ·exact b.now k' z
  ·rcases aJ.mp z with rfl
   obtain⟨⟨k1,h1⟩,h2,rfl⟩:=a9.mp e
   exact⟨h1,h2,b.top _ _ h2⟩
 ·rw [if_neg e]
  have up: ∀{i:Nat} {x:α×Int},kv[i]? =some x->(kv ++ [(k,h0+1)])[i]? =some x:=fun{i x} z=>by rw [fj (aD.mp z).1]; exact z
  have cs: ∀{i:Nat} {x:α×Int},(kv ++ [(k,h0+1)])[i]? =some x->kv[i]? =some x\/(i=kv.length/\x=(k,h0+1)):=fun{i x} z=>by
   rcases Gf i kv.length with y | y | y
   ·rw [fj y]at z; exact .inl z
   ·subst y; rw [eZ (ay _),kj]at z; exact .inr ⟨rfl,by cases z; rfl⟩
   ·rw [bq (by rw [ao,fb]; omega)]at z; cases z
  have hd:=(aD.mp b.at_).1
  refine⟨up b.fst, ?_,up b.at_,fun j k1 h1 z hj=> ?_,fun i k1 h1 hi z k' hk'=> ?_,fun k' hk'=> ?_,fun i j k1 h1 k2 h2 hij z1 z2=> ?_,fun k' h' z=> ?_⟩
  ·rw [bo,jd]
   refine⟨b.nd,by simp,fun x hx y hy=> ?_⟩
   rcases aJ.mp hy with rfl
   rintro rfl
   exact e hx
  ·rcases cs z with z | ⟨rfl,q⟩
   ·obtain⟨i,k',h',a1,a2,a3,a4⟩:=b.par j k1 h1 z hj
    exact⟨i,k',h',a1,a2,up a3,a4⟩
   ·cases q
    exact⟨d,k0,h0,hd,by omega,up b.at_,hk,rfl⟩
  ·rcases cs z with z | ⟨rfl,z⟩
   ·obtain⟨h',a1,a2⟩:=b.Gv i k1 h1 hi z k' hk'
    exact⟨h',dg _ a1,a2⟩
   ·omega
  ·rcases bE.mp hk' with z | z
   ·obtain⟨h',a1,a2⟩:=b.now k' z
    exact⟨h',dg _ a1,a2⟩
   ·rcases aJ.mp z with rfl
    exact⟨h0+1,by simp,Cv _⟩
  ·rcases cs z1 with z1 | ⟨rfl,q1⟩
   ·rcases cs z2 with z2 | ⟨rfl,q⟩
    ·exact b.asc i j k1 h1 k2 h2 hij z1 z2
    ·cases q
     exact b.top _ _ (aW z1)
   ·rcases cs z2 with z2 | ⟨hq,q2⟩
    ·have:=(aD.mp z2).1
     omega
    ·cases q1; cases q2; exact Cv _
  ·rcases bE.mp z with z | z
   ·exact b.top k' h' z
   ·cases aJ.mp z
    exact Cv _
theorem BM.all{d:Nat}{k0:α}{h0:Int}: ∀(m l:List α) {kv:List (α×Int)},BM nb g kv d k0 h0 l->(∀k∈m,k∈nb k0)->BM nb g (m.foldl (Z.visit h0) kv) d k0 h0 (l ++ m)
 | [],l,kv,b,_=>by rw [aZ]; exact b
 | k::m,l,kv,b,hm=>by
  have:=BM.all m (l ++ [k]) (b.visit (hm k (.head _))) fun x hx=>hm x (.tail _ hx)
  rw [aM]at this
  exact this
theorem BI.mid{kv:List (α×Int)}{d:Nat}{k0:α}{h0:Int}(b:BI nb g kv d)(e:kv[d]? =some (k0,h0)):BM nb g kv d k0 h0 []:=
 ⟨b.fst,b.nd,e,fun j k h z hj=>let⟨i,k',h',a1,a2,a3⟩:=b.par j k h z hj; ⟨i,k',h',a1,by omega,a3⟩,b.Gv,fun k' hk'=>(by cases hk'),b.asc,fun k' h' z=>b.top d k0 h0 k' h' (ay _) e z⟩
theorem BM.next{kv:List (α×Int)}{d:Nat}{k0:α}{h0:Int}(b:BM nb g kv d k0 h0 (nb k0)):BI nb g kv (d+1):=by
 refine⟨b.fst,b.nd,b.par,fun i k h hi z k' hk'=> ?_,b.asc,fun i k h k' h' hi z1 z2=> ?_⟩
 ·by_cases hid:i=d
  ·subst hid
   rw [b.at_]at z
   cases z
   exact b.now k' hk'
  ·exact b.Gv i k h (by omega) z k' hk'
 ·have h1:=b.top k' h' z2
  have h2:=b.asc d i _ _ _ _ (by omega) b.at_ z1
  omega
theorem BI.step{kv:List (α×Int)}{d:Nat}(b:BI nb g kv d)(hd:d < kv.length):BI nb g (oh nb kv d) (d+1):=by
 have e:kv[d]? =some (kv[d].1,kv[d].2):=ai hd
 unfold oh
 rw [e]
 have:=BM.all (nb kv[d].1) [] (b.mid e) fun k hk=>hk
 exact BM.next this
theorem Bw(h:Int)(kv:List (α×Int))(k:α):kv <+:visit h kv k:=by
 unfold visit
 split
 ·exact Ii _
 ·exact List.prefix_append _ _
theorem oq(h:Int): ∀(m:List α) (kv:List (α×Int)),kv <+:m.foldl (visit h) kv
 | [],kv=>Ii _
 | k::m,kv=>(Bw h kv k).trans (oq h m _)
theorem u7(kv:List (α×Int))(d:Nat):kv <+:oh nb kv d:=by
 unfold oh
 split
 ·exact oq _ _ _
 ·exact Ii _
theorem oz{P:α->Prop}(h:Int): ∀(m:List α) (kv:List (α×Int)),(∀x∈kv,P x.1)->(∀k∈m,P k)-> ∀x∈m.foldl (visit h) kv,P x.1
 | [],kv,hk,_=>hk
 | k::m,kv,hk,hm=>by
  refine oz h m _ ?_ fun x hx=>hm x (.tail _ hx)
  unfold visit
  split
  ·exact hk
  ·intro x hx
   rcases bE.mp hx with hx | hx
   ·exact hk x hx
   ·rcases aJ.mp hx with rfl
    exact hm k (.head _)
theorem uO{P:α->Prop}{kv:List (α×Int)}{d:Nat}(hc: ∀k,P k-> ∀k'∈nb k,P k')(hk: ∀x∈kv,P x.1): ∀x∈oh nb kv d,P x.1:=by
 unfold oh
 split
 ·rename_i k h e
  exact oz h _ kv hk fun k' hk'=>hc k (hk _ (aW e)) k' hk'
 ·exact hk
theorem zJ{β:Type} [DecidableEq β]: ∀{l m:List β},l.Nodup->(∀x∈l,x∈m)->l.length<=m.length
 | [],m,_,_=>bQ _
 | x::l,m,hn,hs=>by
  have hx:=hs x (.head _)
  have:=zJ (l:=l) (m:=m.erase x) (eF.mp hn).2 fun y hy=>(List.mem_erase_of_ne fun z:y=x=>(eF.mp hn).1 (z▸hy)).mpr (hs y (.tail _ hy))
  rw [List.length_erase_of_mem hx]at this
  have h0:=List.length_pos_of_mem hx
  rw [aH]
  omega
theorem AS{P:α->Prop}{N:Nat}(hc: ∀k,P k-> ∀k'∈nb k,P k')(hN: ∀kv:List (α×Int),(kv.map (·.1)).Nodup->(∀x∈kv,P x.1)->kv.length<=N):
  ∀(n:Nat) (kv:List (α×Int)) (d:Nat),BI nb g kv d->(∀x∈kv,P x.1)->d<=kv.length->N<=n+d-> ∃d',BI nb g (Hg nb n kv d) d'/\(∀x∈Hg nb n kv d,P x.1)/\(Hg nb n kv d).length<=d'
 | 0,kv,d,b,hp,hd,hn=>⟨d,b,hp,by have:=hN kv b.nd hp; show kv.length<=d; omega⟩
 | n+1,kv,d,b,hp,hd,hn=>by
  unfold Hg
  by_cases h:d < kv.length
  ·rw [if_pos h]
   have:=(u7 (nb:=nb) kv d).length_le
   exact AS hc hN n _ (d+1) (b.step h) (uO hc hp) (by omega) (by omega)
  ·rw [if_neg h]
   exact⟨d,b,hp,by omega⟩
structure BE(nb:α->List α)(g:α)(kv:List (α×Int)):Prop where
 nd:(kv.map (·.1)).Nodup
 goal:(g,0)∈kv
 Gv: ∀k h,(k,h)∈kv-> ∀k'∈nb k, ∃h',(k',h')∈kv/\h'<=h+1
 par: ∀k h,(k,h)∈kv->(k=g/\h=0)\/ ∃k' h',(k',h')∈kv/\k∈nb k'/\h=h'+1
 nn: ∀k h,(k,h)∈kv->0<=h
theorem BI.fin{kv:List (α×Int)}{d:Nat}(b:BI nb g kv d)(hd:kv.length<=d):BE nb g kv:=by
 refine⟨b.nd,aW b.fst,fun k h hk=> ?_,fun k h hk=> ?_,fun k h hk=> ?_⟩
 ·obtain⟨i,hi,e⟩:=aN.mp hk
  exact b.Gv i k h (by omega) (by rw [ai hi,e])
 ·obtain⟨i,hi,e⟩:=aN.mp hk
  rcases kY i with rfl | z
  ·have:=b.fst
   rw [ai hi,e]at this
   cases this
   exact .inl ⟨rfl,rfl⟩
  ·obtain⟨j,k',h',_,_,a3,a4,a5⟩:=b.par i k h (by rw [ai hi,e]) z
   exact .inr ⟨k',h',aW a3,a4,a5⟩
 ·obtain⟨i,hi,e⟩:=aN.mp hk
  exact b.asc 0 i g 0 k h (bQ _) b.fst (by rw [ai hi,e])
theorem BE.uniq{kv:List (α×Int)}(b:BE nb g kv){k:α}{h h':Int}(h1:(k,h)∈kv)(h2:(k,h')∈kv):h=h':=by
 obtain⟨i,hi,e1⟩:=aN.mp h1
 obtain⟨j,hj,e2⟩:=aN.mp h2
 have:i=j:=by
  refine(mx (xs:=kv.map (·.1)) (h₀:=by rw [ae]; exact hi) (h₁:=by rw [ae]; exact hj) b.nd).mp ?_
  rw [aS,aS,e1,e2]
 subst this
 rw [e1]at e2
 cases e2
 rfl
end
section
variable {β:Type}
def words(l:List β):Nat->List (List β)
 | 0=> [[]]
 | n+1=>l.flatMap fun x=>(words l n).map (x:: ·)
theorem qe{l:List β}: ∀{n:Nat} {w:List β},w.length=n->(∀x∈w,x∈l)->w∈words l n
 | 0, [],_,_=> .head _
 | n+1,x::w,hl,hx=>by
  unfold words
  refine Ih.mpr ⟨x,hx x (.head _),a9.mpr ⟨w,qe (by simpa using hl) fun y hy=>hx y (.tail _ hy),rfl⟩⟩
theorem qg(l:List β): ∀n:Nat,(words l n).length=l.length ^ n
 | 0=>rfl
 | n+1=>by
  unfold words
  rw [List.length_flatMap]
  have:(l.map fun x=>((words l n).map (x:: ·)).length)=l.map fun _=>l.length ^ n:=List.map_congr_left fun x _=>by rw [ae,qg l n]
  rw [this,List.map_const',List.sum_replicate_nat,Nat.pow_succ,Nat.mul_comm]
end
theorem A6: ∀{a b:List (List Int)},a.flatten=b.flatten->a.map jI=b.map jI->a=b
 | [], [],_,_=>rfl
 | [],_::_,_,h=>by simp at h
 | _::_, [],_,h=>by simp at h
 | x::a,y::b,h1,h2=>by
  rw [bf,bf]at h2
  injection h2 with e1 e2
  rw [cw,cw]at h1
  obtain⟨e3,e4⟩:=List.append_inj h1 e1
  rw [e3,A6 e4 e2]
theorem qB{r:List Int}: ∀{a:List (List Int)},r∈a->r.length<=a.flatten.length
 | x::a,h=>by
  rw [cw,ao]
  rcases aK.mp h with rfl | h
  ·omega
  ·have:=qB h
   omega
def Of(c:List Int)(m:Nat)(k:List (List Int)):Prop:=k.flatten.Perm c/\k.length=m
theorem JG{c:List Int}{m:Nat}(hc:c.length<=4)(hm:m<=4){kv:List (List (List Int)×Int)}(nd:(kv.map (·.1)).Nodup)(h: ∀x∈kv,Of c m x.1):kv.length<=160000:=by
 have e:(kv.map (·.1)).length=kv.length:=ae _
 have nd2:((kv.map (·.1)).map fun k=>(k.flatten,k.map jI)).Nodup:=by
  refine List.Pairwise.map _ (fun a b hab z=>hab ?_) nd
  exact A6 (qX.mp z).1 (qX.mp z).2
 have sub: ∀x∈(kv.map (·.1)).map (fun k=>(k.flatten,k.map jI)),x∈(words c c.length).flatMap fun u=>(words (bD (c.length+1)) m).map fun v=>(u,v):=fun x hx=>by
  obtain⟨k,hk,rfl⟩:=a9.mp hx
  obtain⟨p,hp,rfl⟩:=a9.mp hk
  obtain⟨h1,h2⟩:=h p hp
  refine Ih.mpr ⟨_,qe h1.length_eq fun y hy=>h1.mem_iff.mp hy,a9.mpr ⟨_,qe (by rw [ae]; exact h2) fun y hy=> ?_,rfl⟩⟩
  obtain⟨r,hr,rfl⟩:=a9.mp hy
  have:=qB hr
  rw [h1.length_eq]at this
  exact gS.mpr (by omega)
 have:=zJ nd2 sub
 rw [ae,e,List.length_flatMap]at this
 have q:((words c c.length).map fun u=>((words (bD (c.length+1)) m).map fun v=>(u,v)).length)=(words c c.length).map fun _=>(c.length+1) ^ m:=List.map_congr_left fun x _=>by rw [ae,qg,cg]
 rw [q,List.map_const',List.sum_replicate_nat,qg]at this
 refine bu this ?_
 generalize c.length=n at hc
 have a1:n=0\/n=1\/n=2\/n=3\/n=4:=by omega
 have a2:m=0\/m=1\/m=2\/m=3\/m=4:=by omega
 clear this h nd nd2 sub e q hm
 rcases a1 with rfl | rfl | rfl | rfl | rfl <;> rcases a2 with rfl | rfl | rfl | rfl | rfl <;> decide
end Z
namespace Z
open PySem PySem.Spec PyProof.Rows L2
theorem GO.exact{X:Cx}{ρ:eT}{e:Expr}{R:D->Prop}{d:D}(h:GO X ρ e R)(u: ∀d',R d'->d'=d):av X ρ e d:=fun M0 H0 γ α σ H Q r k=>h M0 H0 γ α σ H Q r fun d' v H' q s x=>k v H' s (u d' q▸x)
end Z
namespace Z
theorem LJ{α:Type _}: ∀(us:List α),us.length=1-> ∃a,us= [a]
 | [a],_=>⟨a,rfl⟩
theorem LF{α:Type _}: ∀(us:List α),us.length=2-> ∃a b,us= [a,b]
 | [a,b],_=>⟨a,b,rfl⟩
theorem Mw{α:Type _}: ∀(us:List α),us.length=3-> ∃a b c,us= [a,b,c]
 | [a,b,c],_=>⟨a,b,c,rfl⟩
theorem Ma{α:Type _}: ∀(us:List α),us.length=4-> ∃a b c d,us= [a,b,c,d]
 | [a,b,c,d],_=>⟨a,b,c,d,rfl⟩
theorem Mn{α:Type _}: ∀(us:List α),us.length=5-> ∃a b c d e,us= [a,b,c,d,e]
 | [a,b,c,d,e],_=>⟨a,b,c,d,e,rfl⟩
end Z
namespace Z
open PySem L2 PyProof.Rows
end Z
namespace Z
open PySem PySem.Spec PyProof.Rows L2
theorem nC{H H1:Hp}{l:Addr}(s:bJ H H1):bJ (eG H l) (eG H1 l):=fun b o e=>by
 unfold eG at e ⊢
 split at e
 ·cases e
 ·rename_i h
  rw [if_neg h]
  exact s b o e
theorem jT{H:Hp}{l b:Addr}{o:HO}(h:b≠l)(e:H b=some o):eG H l b=some o:=by unfold eG; rw [if_neg h]; exact e
end Z
namespace Z
open PySem PySem.Spec PyProof.Rows
end Z
namespace Z
open PySem PySem.Spec PyProof.Rows L2
end Z
namespace Z
open PySem PySem.Spec PySem.W PyProof.Rows
structure lj(h:Heap)(d:Addr)(es:Array dR)(ep:Nat):Prop where
 ex: ∃o,h.get? d=some o/\o.ExactDict/\o.data= .dict es ep
theorem lj.at{h h':Heap}{d:Addr}{es:Array dR}{ep:Nat}(x:lj h d es ep)(k: ∀o,h.get? d=some o->h'.get? d=some o):lj h' d es ep:=let⟨o,h1,r⟩:=x.ex; ⟨o,k o h1,r⟩
def ko(d:Addr)(i n ep:Nat):Obj:={cls:= .type "dict_keyiterator",data:= .fields #[.ref d, .int i 0, .int n 0, .int ep 0]}
section
variable {prog:aq}{w:World}{A:bh}{E:Value->ah->Prop}{s:ah}{d:Addr}{es:Array dR}{ep:Nat}
theorem lj.ty(x:lj s.heap d es ep):s.TypeIs (.ref d) "dict":=let⟨o,h1,h2,_⟩:=x.ex; ⟨o,h1,h2.1⟩
theorem Fh{Q:Value->ah->Prop}(hd:(d==iR)=false)(x:lj s.heap d es ep)(h:Q (.ref s.heap.objs.size) {s with heap:=s.heap.push (ko d 0 es.size ep)}):wpAny (model prog w) A (tV (.ref d)) Q E s:=by
 have ty:=x.ty
 obtain⟨o,k1,k2,k3⟩:=x.ex
 refine jf ty PySem.F.slot_dict_iter (bI PySem.F.slot_dict_iter ty PySem.F.entry_dict_iter ?_ (PySem.F.args_dict_iter_1 _))
 unfold c6.«dict.__iter__»
 refine aa ?_
 unfold Builtin.Dict.dictSlotNone
 refine aa (wpAny_notOrdered_dict ty ?_)
 show wpAny _ _ (pure (ak d)) _ _ s
 refine af ?_
 show wpAny _ _ (n8 d >>=_) _ _ s
 unfold n8
 rw [if_neg (by rw [hd]; exact aA)]
 refine aa (af ?_)
 refine aa (qY k1 k3 ?_)
 refine aa (uG k1 k3 ?_)
 refine aa (bb (af ⟨_,rfl,"dict_keyiterator",_,⟨_,aw _ rfl,rfl⟩,iX.lookup, ?_⟩))
 simpa [d_,ko]using h
theorem yb{I:Addr}{i:Nat}{Q:Option Value->ah->Prop}(hh:A.handled=none)(hI:s.heap.get? I=some (ko d i es.size ep))(x:lj s.heap d es ep)
  (h1: ∀(hi:i < es.size) (h':Heap),h'.get? I=some (ko d (i+1) es.size ep)->bH I s.heap h'->Q (some es[i].key) {s with heap:=h'})
  (h2:es.size<=i-> ∀h',Co I s.heap h'->Q none {s with heap:=h'}):wpAny (model prog w) A (iS (.ref I)) Q E s:=by
 have ty:s.TypeIs (.ref I) "dict_keyiterator":=⟨_,hI,rfl⟩
 obtain⟨o,k1,k2,k3⟩:=x.ex
 unfold iS
 refine aa (mf (cM (name:=hJ "__next__") ty iX (bI iX ty PySem.F.entry_dict_keyiterator_next ?_ (PySem.F.args_dict_keyiterator_next_1 _))))
 refine aa (af ?_)
 refine aa ?_
 refine aa ?_
 first | refine aa (uh ty (af ?_)) | refine aa (yS ty (af ?_))
 refine aa (wpAny_fieldsOf hI rfl ?_)
 have own:uH "dict_keyiterator"=false:=by decide
 simp only [own,a_,if_false]
 show wpAny _ _ (if(ak d==aY)=true then _ else _) _ _ s
 rw [if_neg (show ¬((ak d==aY)=true)from aA)]
 refine aa (af ?_)
 refine aa (qY k1 k3 ?_)
 rw [if_neg (by simp)]
 refine aa (af ?_)
 refine aa (uG k1 k3 ?_)
 rw [if_neg (by simp)]
 refine af ?_
 by_cases hi:i < es.size
 ·simp only [show ¬((i:Int) < 0)from by omega,if_false,cJ,cS hi]
  refine aa ?_
  first | refine aa (uh ty (af ?_)) | refine aa (yS ty (af ?_))
  refine aa (wpAny_isOneOf_keyiter ty ?_)
  show wpAny _ _ (gW (.ref I) 1 (d_ ((i:Int)+1)) >>=_) _ _ s
  refine aa (cX hI rfl (by show 1 < 4; decide) ?_)
  have hI':(s.heap.update I (dW (·.setIfInBounds 1 (d_ ((i:Int)+1))))).get? I=some (ko d (i+1) es.size ep):=cT _ hI rfl
  refine aa (bG ?_)
  refine aa (wpAny_isOneOf_keyiter (s:={s with heap:=s.heap.update I (dW (·.setIfInBounds 1 (d_ ((i:Int)+1))))}) ⟨_,hI',rfl⟩ ?_)
  show wpAny _ _ (pure es[i].key) _ _ _
  exact af (af ⟨_,rfl,af (h1 hi _ hI' (bB ..))⟩)
 ·have hi:es.size<=i:=by omega
  simp only [show ¬((i:Int) < 0)from by omega,if_false,cJ,Array.getElem?_eq_none hi]
  refine aa ?_
  first | refine aa (uh ty (af ?_)) | refine aa (yS ty (af ?_))
  show wpAny _ _ (gW (.ref I) 0 .none >>=_) _ _ s
  refine aa (cX hI rfl (by show 0 < 4; decide) ?_)
  show wpAny _ _ (t9 (.type "StopIteration") [] >>=_) _ _ _
  refine aa ?_
  simp only [t9,newTuple]
  refine aa (bb ?_ (by size_fits))
  refine aa (m:=gX _ _) (uf (a:=aY) (by first | rfl | (simp only [gX]; rfl)) ?_)
  refine bb ?_ (by size_fits)
  simp only [raiseNew]
  refine aa (yP ?_)
  rw [show A.in1.handled=none from hh]
  refine aa (af (Cp ?_))
  refine aa (eS (T:="StopIteration") (b:=true) ⟨_,aw _ rfl,rfl⟩ wU ?_)
  exact af (h2 hi _ (((bB ..).extBut.push _).push _))
theorem BZ(hh:A.handled=none){I:Addr}(hId:I≠d):Walks prog w A I [I,d] [I] es.size (fun i v=> ∃hi:i < es.size,v=es[i].key) (fun i h=>h.get? I=some (ko d i es.size ep)/\lj h d es ep) where
 sub:=fun b hb=>by rw [aJ.mp hb]; exact bT
 frame:=fun i h h' ⟨x,y⟩ hk=>⟨hk I (by simp) _ x,y.at fun o e=>hk d (by simp) o e⟩
 item:=fun i s Q E hi ⟨x,y⟩ hQ=>yb hh x y (fun hi h' hI' sb=>hQ _ h' s.toks ⟨hi,rfl⟩ ⟨hI',y.at fun o e=>(sb.2 d hId.symm).trans e⟩ fun b ob hb q=>(sb.2 b (by simpa using hb)).trans q) fun he=>absurd hi (by omega)
 done:=fun s Q E ⟨x,y⟩ hQ=>yb hh x y (fun hi=>absurd hi (by omega)) fun _ h' eb=>hQ h' s.toks fun b ob hb q=>eb b ob (by simpa using hb) q
 self:=fun i s Q E ⟨x,y⟩ hQ=>by
  have ty:s.TypeIs (.ref I) "dict_keyiterator":=⟨_,x,rfl⟩
  refine jf ty PySem.F.slot_dict_keyiterator_iter (bI PySem.F.slot_dict_keyiterator_iter ty PySem.F.entry_dict_keyiterator_iter ?_ (PySem.F.args_dict_keyiterator_iter_1 _))
  show wpAny _ _ (ret (.ref I)) _ _ s
  exact af ⟨_,rfl,"dict_keyiterator",_,ty,iX.lookup,hQ⟩
end
section
variable {prog:aq}{w:World}{A:bh}{E:Value->ah->Prop}{s:ah}{d:Addr}{es:Array dR}{ep:Nat}
theorem xg{Q:List Value->ah->Prop}(hh:A.handled=none)(hd:(d==iR)=false)(x:lj s.heap d es ep)(lu:es.size<=sizeLine)
  (hQ: ∀h' tk,s.heap.objs.size < h'.objs.size->(∀b ob,s.heap.get? b=some ob->h'.get? b=some ob)->Q (es.toList.map (·.key)) {s with heap:=h',toks:=tk}):wpAny (model prog w) A (collect (.ref d)) Q E s:=by
 obtain⟨o,k1,k2,k3⟩:=x.ex
 have hlt:d < s.heap.objs.size:=au k1
 unfold collect
 refine aa (wR (c8 vm ?_))
 rw [cy vn _]
 show wpAny _ A.in1 (newList [] >>=fun l=>again (.builtin "list.__iadd__" ⟨[l, .ref d], []⟩)) _ _ s
 refine aa (bb ?_)
 refine af ⟨dz fW _,c8 y4 ?_⟩
 rw [cy fW _]
 have x1:lj (s.heap.push {cls:= .type "list",data:= .seq ([]:List Value).toArray}) d es ep:=x.at fun o e=>ag _ e
 have hS₁:(s.heap.push {cls:= .type "list",data:= .seq ([]:List Value).toArray}).get? s.heap.objs.size=some {cls:= .type "list",data:= .seq ([]:List Value).toArray}:=aw _ rfl
 have h1:fF (.ref s.heap.objs.size) (.ref d)=false:=by simp [fF,bP hlt]
 have ty:gF {s with heap:=s.heap.push {cls:= .type "list",data:= .seq ([]:List Value).toArray}} (.ref d) "dict":=x1.ty (s:={s with heap:=s.heap.push {cls:= .type "list",data:= .seq ([]:List Value).toArray}})
 show wpAny _ A.in1 (eL (.ref s.heap.objs.size) (.ref d) (.ref s.heap.objs.size)) _ _ _
 unfold eL
 refine aa (fv ty ?_)
 rw [if_neg (by rw [h1]; decide)]
 refine aa (Fh (s:={s with heap:=s.heap.push {cls:= .type "list",data:= .seq ([]:List Value).toArray}}) hd x1 ?_)
 refine aa (bG ?_)
 unfold vo
 have x2:lj ((s.heap.push {cls:= .type "list",data:= .seq ([]:List Value).toArray}).push (ko d 0 es.size ep)) d es ep:=x1.at fun o e=>ag _ e
 have ty2:gF {s with heap:=(s.heap.push {cls:= .type "list",data:= .seq ([]:List Value).toArray}).push (ko d 0 es.size ep)} (.ref d) "dict":=x2.ty (s:={s with heap:=(s.heap.push {cls:= .type "list",data:= .seq ([]:List Value).toArray}).push (ko d 0 es.size ep)})
 refine aa (gB ty2 PySem.F.slot_dict_len.lookup ?_)
 generalize hid:("dict.__len__":String)=id0
 dsimp only
 rw [show splitId id0=some ("dict","__len__")from by subst hid; decide +kernel]
 subst hid
 dsimp only
 refine aa (eS (b:=true) ty2 (by rw [o4]; kernel_rfl) ?_)
 rw [if_neg (show ¬(!true)=true by decide)]
 refine dI (fun _=> ?_) fun hs=>(hs (by decide +kernel)).elim
 refine aa (fv ty2 (af ?_))
 have szl:(s.heap.push {cls:= .type "list",data:= .seq ([]:List Value).toArray}).objs.size=s.heap.objs.size+1:=cB ..
 have hne:s.heap.objs.size≠(s.heap.push {cls:= .type "list",data:= .seq ([]:List Value).toArray}).objs.size:=by rw [szl]; exact aE (fU _)
 have hId:(s.heap.push {cls:= .type "list",data:= .seq ([]:List Value).toArray}).objs.size≠d:=by rw [szl]; exact bP (cv hlt)
 have hL2:((s.heap.push {cls:= .type "list",data:= .seq ([]:List Value).toArray}).push (ko d 0 es.size ep)).get? s.heap.objs.size=some {cls:= .type "list",data:= .seq ([]:List Value).toArray}:=ag _ hS₁
 have hI2:((s.heap.push {cls:= .type "list",data:= .seq ([]:List Value).toArray}).push (ko d 0 es.size ep)).get? (s.heap.push {cls:= .type "list",data:= .seq ([]:List Value).toArray}).objs.size=some (ko d 0 es.size ep):=aw _ rfl
 have hk2: ∀b ob,s.heap.get? b=some ob->((s.heap.push {cls:= .type "list",data:= .seq ([]:List Value).toArray}).push (ko d 0 es.size ep)).get? b=some ob:=fun b ob e=>ag _ (ag _ e)
 generalize hI0:(s.heap.push {cls:= .type "list",data:= .seq ([]:List Value).toArray}).objs.size=I0 at hne hId hI2 szl ⊢
 generalize hH0:(s.heap.push {cls:= .type "list",data:= .seq ([]:List Value).toArray}).push (ko d 0 es.size ep)=H0 at hL2 hI2 hk2 x2 ⊢
 have fin: ∀(h':Heap) (c:Nat),bH s.heap.objs.size H0 h'->h'.get? s.heap.objs.size=some {cls:= .type "list",dict:=none,data:= .seq #[] c,slots:= #[]}->
   fu (model prog w) A (.builtin "list.extend.loop" ⟨[.ref s.heap.objs.size, .ref I0, .ref s.heap.objs.size], []⟩) (fun r s'=>match r with
       | t_ (Flow.ret v)=>
        wpAny (model prog w) A
         (match v with
         | ak a=>do
          let __do_lift<-load a
          match __do_lift.data with
           | wN xs epoch=>pure xs.toList
           | x=>iY "internal:collect"
         | x=>iY "internal:collect")
         Q E s'
       | t_ a=>False
       | Except.error e=>E e s') {s with heap:=h'}:=fun h' c sb hl=>by
  refine codeAny_extend_loopS ((BZ (A:=A.in1) (by simpa using hh) hId).toS) lu s.heap.objs.size (by simp only [aK,dj,or_false,not_or]; exact⟨hne,bP hlt⟩) _ es.size 0 _ #[] c (by omega) (bQ _)
   ⟨(sb.2 I0 hne.symm).trans hI2,x2.at fun o e=>(sb.2 d (aE hlt)).trans e⟩ hl (ItemsOf.nil _) fun s' acc c' hm hS' hacc=> ?_
  dsimp only
  refine aa (wpAny_load hS' ?_)
  refine af ?_
  obtain⟨h2,g',d',tk',os'⟩:=s'
  have eg:g'=s.gens:=hm.gens
  have ed:d'=s.drawn:=hm.drawn
  have eo:os'=s.os:=hm.os
  subst eg; subst ed; subst eo
  have e:acc.toList=es.toList.map (·.key):=by
   apply fy
   intro i
   rw [ax]
   by_cases hi:i < es.size
   ·have hi2:i < acc.size:=by rw [hacc.1]; exact hi
    have h1:acc[i]? =some acc[i]:=cS hi2
    obtain⟨_,hv⟩:=hacc.2 i _ h1
    have h3:acc.toList[i]? =some acc[i]:=by rw [bp]; exact h1
    have h4:es.toList[i]? =some es[i]:=by simp [hi]
    rw [h3,h4,hv]
    rfl
   ·have h1:acc.toList[i]? =none:=bq (by rw [aj,hacc.1]; omega)
    have h2:es.toList[i]? =none:=bq (by rw [aj]; omega)
    rw [h1,h2]
    rfl
  rw [e]
  refine hQ h2 tk' (au hS') (fun b ob e=> ?_)
  have hb:=au e
  refine hm.heap b ob ?_ ((sb.2 b (aE hb)).trans (hk2 b ob e))
  simp only [aK,dj,or_false,not_or]
  exact⟨aE hb,by rw [szl]; exact aE (cv hb)⟩
 refine dI (fun _=> ?_) fun _=> ?_
 ·refine aa (e7 ?_)
  unfold Ac
  refine aa (aa (iA hL2 rfl ?_ (by show 0<=_; omega) (by show 1<=_; rw [eO]; omega)))
  have hL3:=fm hL2 fun x=>x.push aY
  refine iA hL3 rfl ?_ (by show 1<=_; rw [eO]; omega) (by show 0<=_; omega)
  have hL4:=fm hL3 fun x=>x.pop
  exact af ⟨dz cz _,fin _ _ ((bB ..).trans (bB ..)) hL4⟩
 ·exact af ⟨dz cz _,fin _ _ (dC _ _) hL2⟩
end
def g8(f0 f1 ok ov:Value)(d:Addr)(i n ep:Nat):Obj:={cls:= .type "dict_itemiterator",data:= .fields #[f0,f1, .ref d, .int i 0, .int n 0, .int ep 0,ok,ov]}
def xI(d:Addr):Obj:={cls:= .type "dict_items",data:= .fields #[.ref d]}
def fJ(e:dR):Obj:={cls:= .type "tuple",data:= .seq #[e.key,e.val]}
section
variable {prog:aq}{w:World}{A:bh}{E:Value->ah->Prop}{s:ah}{d v:Addr}{es:Array dR}{ep:Nat}
theorem B5(hd:(d==iR)=false):MeetsIn prog w (c6.«dict.items» ⟨[.ref d], []⟩) (fun _ R s=>lj s.heap d es ep/\R (.ok (.ret (.ref s.heap.objs.size))) {s with heap:=s.heap.push (xI d)}):=
 .of_wp fun A R s ⟨x,h⟩=>by
  unfold c6.«dict.items»
  refine aa ?_
  unfold Builtin.Dict.noArgs
  refine aa (wpAny_notOrdered_dict x.ty ?_)
  show wpAny _ _ (pure d) _ _ s
  refine af ?_
  show wpAny _ _ (n8 d >>=_) _ _ s
  unfold n8
  rw [if_neg (by rw [hd]; exact aA)]
  refine aa (af ?_)
  exact aa (bb (af ⟨_,rfl,h⟩))
theorem zm{Q:Value->ah->Prop}(hv:s.heap.get? v=some (xI d))(x:lj s.heap d es ep)(h:Q (.ref s.heap.objs.size) {s with heap:=s.heap.push (g8 .none (.bool false) .none .none d 0 es.size ep)}):wpAny (model prog w) A (tV (.ref v)) Q E s:=by
 have ty:s.TypeIs (.ref v) "dict_items":=⟨_,hv,rfl⟩
 obtain⟨o,k1,k2,k3⟩:=x.ex
 refine jf ty PySem.F.slot_dict_items_iter (bI PySem.F.slot_dict_items_iter ty PySem.F.entry_dict_items_iter ?_ (PySem.F.args_dict_items_iter_1 _))
 unfold c6.«dict_items.__iter__»
 refine aa (af ?_)
 refine aa ?_
 unfold Builtin.Dict_items.dictOf
 refine aa (bz hv rfl (x:= .ref d) rfl (af ?_))
 refine aa ?_
 unfold Builtin.Dict_items.newIterator
 refine aa (qY k1 k3 ?_)
 refine aa (uG k1 k3 ?_)
 have own:uH "dict_itemiterator"=true:=by decide
 simp only [own,if_true]
 refine bb (af ⟨_,rfl,"dict_itemiterator",_,⟨_,aw _ rfl,rfl⟩,pW.lookup, ?_⟩) (by simp only [sizeOk,Builtin.Dict_items.ownedTupleFields,az,ao,aH,c7,eO]; omega)
 simpa [d_,g8,Builtin.Dict_items.ownedTupleFields]using h
theorem DL{M:Model}{a:Addr}{Q:Option Obj->ah->Prop}(h:Q (s.heap.get? a) s):wpAny M A (Cq a) Q E s:=fun Γ p hΓ=>h
theorem rO{I:Addr}{i:Nat}{f0 f1 ok ov:Value}{Q:Option Value->ah->Prop}(hh:A.handled=none)(hI:s.heap.get? I=some (g8 f0 f1 ok ov d i es.size ep))(hf0:f0= .none\/ ∃a:Addr,f0=d_ a)(x:lj s.heap d es ep)
  (h1: ∀(hi:i < es.size) (h':Heap) (g0 g1 gk gv:Value),(g0= .none\/ ∃a:Addr,g0=d_ a)->h'.get? I=some (g8 g0 g1 gk gv d (i+1) es.size ep)->h'.get? s.heap.objs.size=some (fJ es[i])->(∀b o,b≠I->s.heap.get? b=some o->h'.get? b=some o)->Q (some (.ref s.heap.objs.size)) {s with heap:=h'})
  (h2:es.size<=i-> ∀h',Co I s.heap h'->Q none {s with heap:=h'}):wpAny (model prog w) A (iS (.ref I)) Q E s:=by
 obtain⟨hp,g,dr,tk,os⟩:=s
 have ty:gF ⟨hp,g,dr,tk,os⟩ (.ref I) "dict_itemiterator":=⟨_,hI,rfl⟩
 obtain⟨o,k1,k2,k3⟩:=x.ex
 unfold iS
 refine aa (mf (cM (name:=hJ "__next__") ty pW (bI pW ty PySem.F.entry_dict_itemiterator_next ?_ (PySem.F.args_dict_itemiterator_next_1 _))))
 refine aa (af ?_)
 refine aa ?_
 refine aa ?_
 first | refine aa (ud ty (af ?_)) | refine aa (w_ ty (af ?_))
 refine aa (wpAny_fieldsOf hI rfl ?_)
 have own:uH "dict_itemiterator"=true:=by decide
 simp only [own,if_true]
 show wpAny _ _ (if(ak d==aY)=true then _ else _) _ _ _
 rw [if_neg (show ¬((ak d==aY)=true)from aA)]
 refine aa (af ?_)
 refine aa (qY k1 k3 ?_)
 rw [if_neg (by simp)]
 refine aa (af ?_)
 refine aa (uG k1 k3 ?_)
 rw [if_neg (by simp)]
 refine af ?_
 by_cases hi:i < es.size
 ·simp only [show ¬((i:Int) < 0)from by omega,if_false,cJ,cS hi]
  refine aa ?_
  first | refine aa (ud ty (af ?_)) | refine aa (w_ ty (af ?_))
  refine aa (Ad ty ?_)
  show wpAny _ _ (gW (.ref I) 3 (d_ ((i:Int)+1)) >>=_) _ _ ⟨hp,g,dr,tk,os⟩
  refine aa (bV hI (by show 3 < 8; decide) fun a1 e1 s1=> ?_)
  replace s1:bH I hp a1:=s1
  replace e1:a1.get? I=some (g8 f0 f1 ok ov d (i+1) es.size ep):=e1
  have ty1:gF ⟨a1,g,dr,tk,os⟩ (.ref I) "dict_itemiterator":=⟨_,e1,rfl⟩
  refine aa (bG ?_)
  refine aa (Ad ty1 ?_)
  refine aa (Ad ty1 ?_)
  show wpAny _ _ (Builtin.Dict_items.pairFromOwner (.ref I) 6 es[i].key es[i].val) _ _ ⟨a1,g,dr,tk,os⟩
  unfold Builtin.Dict_items.pairFromOwner
  refine aa (wV ?_)
  have e2:(a1.push (fJ es[i])).get? I=some (g8 f0 f1 ok ov d (i+1) es.size ep):=ag _ e1
  have z1:a1.objs.size=hp.objs.size:=s1.1
  have hil:I < hp.objs.size:=au hI
  have t2:(a1.push (fJ es[i])).get? hp.objs.size=some (fJ es[i]):=by rw [<-z1]; exact aw _ rfl
  have q2: ∀b o,b≠I->hp.get? b=some o->(a1.push (fJ es[i])).get? b=some o:=fun b o hb e=>ag _ (s1.extBut b o hb e)
  show wpAny _ _ (Builtin.Dict_items.ownedTupleIsFree (.ref I) >>=_) _ _ ⟨a1.push (fJ es[i]),g,dr,tk,os⟩
  rw [z1]
  generalize a1.push (fJ es[i])=a2 at e2 t2 q2
  have free: ∀{Q':Value->ah->Prop},(∀h' g0 g1 gk gv,(g0= .none\/ ∃a:Addr,g0=d_ a)->h'.get? I=some (g8 g0 g1 gk gv d (i+1) es.size ep)->h'.get? hp.objs.size=some (fJ es[i])->(∀b o,b≠I->hp.get? b=some o->h'.get? b=some o)->Q' (.ref hp.objs.size) ⟨h',g,dr,tk,os⟩)-> ∀{E':Value->ah->Prop},
    wpAny (model prog w) A.in1 (do
     let old:= [<-field (.ref I) 6, <-field (.ref I) (6+1)]
     gW (.ref I) 6 es[i].key; gW (.ref I) (6+1) es[i].val
     gW (.ref I) 0 (d_ hp.objs.size); gW (.ref I) 1 (.bool false)
     letGo old [.ref hp.objs.size]
     pure (.ref hp.objs.size)) Q' E' ⟨a2,g,dr,tk,os⟩:=fun{Q'} hQ {E'}=>by
   refine aa (bz e2 rfl (x:=ok) rfl ?_)
   refine aa (bz e2 rfl (x:=ov) rfl ?_)
   refine aa (bV e2 (by show 6 < 8; decide) fun a3 e3 s3=> ?_)
   replace s3:bH I a2 a3:=s3
   replace e3:a3.get? I=some (g8 f0 f1 es[i].key ov d (i+1) es.size ep):=e3
   refine aa (bV e3 (by show 7 < 8; decide) fun a4 e4 s4=> ?_)
   replace s4:bH I a3 a4:=s4
   replace e4:a4.get? I=some (g8 f0 f1 es[i].key es[i].val d (i+1) es.size ep):=e4
   refine aa (bV e4 (by show 0 < 8; decide) fun a5 e5 s5=> ?_)
   replace s5:bH I a4 a5:=s5
   replace e5:a5.get? I=some (g8 (d_ hp.objs.size) f1 es[i].key es[i].val d (i+1) es.size ep):=e5
   refine aa (bV e5 (by show 1 < 8; decide) fun a6 e6 s6=> ?_)
   replace s6:bH I a5 a6:=s6
   replace e6:a6.get? I=some (g8 (d_ hp.objs.size) (.bool false) es[i].key es[i].val d (i+1) es.size ep):=e6
   refine aa (Cs (af (hQ a6 _ _ _ _ (.inr ⟨_,rfl⟩) e6 ?_ ?_)))
   ·exact s6.extBut _ _ (bP hil) (s5.extBut _ _ (bP hil) (s4.extBut _ _ (bP hil) (s3.extBut _ _ (bP hil) t2)))
   ·exact fun b o hb e=>s6.extBut b o hb (s5.extBut b o hb (s4.extBut b o hb (s3.extBut b o hb (q2 b o hb e))))
  have fin: ∀h' g0 g1 gk gv,(g0= .none\/ ∃a:Addr,g0=d_ a)->h'.get? I=some (g8 g0 g1 gk gv d (i+1) es.size ep)->h'.get? hp.objs.size=some (fJ es[i])->(∀b o,b≠I->hp.get? b=some o->h'.get? b=some o)->Q (some (.ref hp.objs.size)) ⟨h',g,dr,tk,os⟩:=fun h' g0 g1 gk gv c1 c2 c3 c4=>h1 hi h' g0 g1 gk gv c1 c2 c3 c4
  refine aa ?_
  unfold Builtin.Dict_items.ownedTupleIsFree
  refine aa (bz e2 rfl (x:=f0) rfl ?_)
  rcases hf0 with rfl | ⟨a,rfl⟩
  ·refine af ?_
   rw [if_pos rfl]
   exact free fun h' g0 g1 gk gv c1 c2 c3 c4=>af ⟨_,rfl,af (fin h' g0 g1 gk gv c1 c2 c3 c4)⟩
  ·refine aa (DL ?_)
   cases ea:a2.get? a with
   | none=>
    refine dI (fun _=> ?_) fun z=>absurd ?_ z
    ·refine af ?_
     rw [if_pos rfl]
     exact free fun h' g0 g1 gk gv c1 c2 c3 c4=>af ⟨_,rfl,af (fin h' g0 g1 gk gv c1 c2 c3 c4)⟩
    ·show(a2.get? ((a:Int).toNat)).isNone=true
     rw [cJ,ea]
     rfl
   | some oa=>
    refine dI (fun z=>absurd (show(a2.get? ((a:Int).toNat)).isNone=true from z) (by rw [cJ,ea]; exact aA)) fun _=> ?_
    refine aa (bz e2 rfl (x:=f1) rfl ?_)
    refine dI (fun _=> ?_) fun _=> ?_
    ·refine aa (bV e2 (by show 1 < 8; decide) fun a3 e3 s3=> ?_)
     replace s3:bH I a2 a3:=s3
     replace e3:a3.get? I=some (g8 (d_ a) (.bool true) ok ov d (i+1) es.size ep):=e3
     refine af ?_
     rw [if_neg aA]
     exact af (af ⟨_,rfl,af (fin a3 _ _ _ _ (.inr ⟨a,rfl⟩) e3 (s3.extBut _ _ (bP hil) t2) fun b o hb e=>s3.extBut b o hb (q2 b o hb e))⟩)
    ·refine af ?_
     rw [if_neg aA]
     exact af (af ⟨_,rfl,af (fin a2 _ _ _ _ (.inr ⟨a,rfl⟩) e2 t2 q2)⟩)
 ·have hi:es.size<=i:=by omega
  simp only [show ¬((i:Int) < 0)from by omega,if_false,cJ,Array.getElem?_eq_none hi]
  refine aa ?_
  first | refine aa (ud ty (af ?_)) | refine aa (w_ ty (af ?_))
  show wpAny _ _ (gW (.ref I) 2 .none >>=_) _ _ ⟨hp,g,dr,tk,os⟩
  refine aa (cX hI rfl (by show 2 < 8; decide) ?_)
  show wpAny _ _ (t9 (.type "StopIteration") [] >>=_) _ _ _
  refine aa ?_
  simp only [t9,newTuple]
  refine aa (bb ?_ (by size_fits))
  refine aa (m:=gX _ _) (uf (a:=aY) (by first | rfl | (simp only [gX]; rfl)) ?_)
  refine bb ?_ (by size_fits)
  simp only [raiseNew]
  refine aa (yP ?_)
  rw [show A.in1.handled=none from hh]
  refine aa (af (Cp ?_))
  refine aa (eS (T:="StopIteration") (b:=true) ⟨_,aw _ rfl,rfl⟩ wU ?_)
  exact af (h2 hi _ (((bB ..).extBut.push _).push _))
end
section
variable {prog:aq}{w:World}{A:bh}{E:Value->ah->Prop}{s:ah}{d v:Addr}{es:Array dR}{ep:Nat}
theorem wA{I L:Addr}{res:Value}{R:Result->ah->Prop}{s0:ah}(hh:A.in1.handled=none)(lu:es.size<=sizeLine)(hLI:L≠I)(hId:I≠d)(hLd:L≠d){m0:Nat}:
  ∀(k i:Nat) (h:Heap) (bs:List Addr) (c:Nat),m0<=h.objs.size->(∀b∈bs,m0<=b)->es.size - i=k->i<=es.size->(∃f0 f1 ok ov,(f0= .none\/ ∃a:Addr,f0=d_ a)/\h.get? I=some (g8 f0 f1 ok ov d i es.size ep))->lj h d es ep->
   h.get? L=some {cls:= .type "list",dict:=none,data:= .seq (bs.map ak).toArray c,slots:= #[]}->bs.length=i->(∀j b,bs[j]? =some b-> ∃hj:j < es.size,h.get? b=some (fJ es[j]))->(∀b ob,b≠L->b≠I->s0.heap.get? b=some ob->h.get? b=some ob)->
   (∀(h':Heap) (bs':List Addr) (c':Nat),(∀b∈bs',m0<=b)->h'.get? L=some {cls:= .type "list",dict:=none,data:= .seq (bs'.map ak).toArray c',slots:= #[]}->bs'.length=es.size->(∀j b,bs'[j]? =some b-> ∃hj:j < es.size,h'.get? b=some (fJ es[j]))->(∀b ob,b≠L->b≠I->s0.heap.get? b=some ob->h'.get? b=some ob)->R (.ok (.ret res)) {s0 with heap:=h'})->
   fu (model prog w) A (.builtin "list.extend.loop" ⟨[.ref L, .ref I,res], []⟩) R {s0 with heap:=h}:=by
 intro k
 induction k with
 | zero=>
  intro i h bs c hm1 hm2 hk hi ⟨f0,f1,ok,ov,hf,hI⟩ x hL hb hp hs hR
  have hin:i=es.size:=by omega
  subst hin
  refine c8 PySem.F.entry_extend_loop ?_
  rw [cy cz _]
  show wpAny _ A.in1 (iS (.ref I) >>=_) _ _ _
  refine aa (rO (s:={s0 with heap:=h}) hh hI hf x (fun hi=>absurd hi (dS _)) fun _ h' eb=> ?_)
  refine af (hR h' bs c hm2 (eb _ _ hLI hL) hb (fun j b e=> ?_) fun b ob n1 n2 e=>eb b ob n2 (hs b ob n1 n2 e))
  obtain⟨hj,e2⟩:=hp j b e
  exact⟨hj,eb _ _ (by rintro rfl; rw [hI]at e2; exact absurd (show cq "dict_itemiterator"=cq "tuple" from congrArg Obj.cls (aC e2)) (by decide)) e2⟩
 | succ k ih=>
  intro i h bs c hm1 hm2 hk hi ⟨f0,f1,ok,ov,hf,hI⟩ x hL hb hp hs hR
  refine c8 PySem.F.entry_extend_loop ?_
  rw [cy cz _]
  show wpAny _ A.in1 (iS (.ref I) >>=_) _ _ _
  refine aa (rO (s:={s0 with heap:=h}) hh hI hf x (fun hi h' g0 g1 gk gv c1 c2 c3 c4=> ?_) fun hge=>absurd hge (by omega))
  have hL':=c4 L _ hLI hL
  have hLlt:L < h.objs.size:=au hL
  have hIlt:I < h.objs.size:=au hI
  have sz:(bs.map ak).toArray.size=i:=by rw [az,ae,hb]
  show wpAny _ A.in1 (updateSeq L (·.push (.ref h.objs.size)) >>=_) _ _ _
  refine aa ?_
  have up: ∀b ob,b≠L->h'.get? b=some ob->(h'.update L (df (·.push (.ref h.objs.size)))).get? b=some ob:=fun b ob hb e=>(cf _ _ (fun z:L=b=>hb z.symm)).trans e
  obtain⟨cc,hc2⟩: ∃cc,(h'.update L (df (·.push (.ref h.objs.size)))).get? L=some {cls:= .type "list",dict:=none,data:= .seq ((bs ++ [h.objs.size]).map ak).toArray cc,slots:= #[]}:=by
   have e:=fm (c:="list") hL' (·.push (.ref h.objs.size))
   have ep:((bs ++ [h.objs.size]).map ak).toArray=(bs.map ak).toArray.push (.ref h.objs.size):=by
    apply mE.mp
    rw [je,bo]
    rfl
   rw [ep]
   exact⟨_,e⟩
  refine IP hL' rfl (af ⟨dz cz _,ih (i+1) _ (bs ++ [h.objs.size]) cc (by show m0<=(h'.update L _).objs.size; rw [Heap.size_update]; exact bu hm1 (i9 (au c3))) (fun b hb'=>(bE.mp hb').elim (hm2 b) fun z=>by rw [aJ.mp z]; exact hm1) (by omega) (by omega) ⟨g0,g1,gk,gv,c1,up _ _ hLI.symm c2⟩ (x.at fun o e=>up _ _ hLd.symm (c4 _ _ hId.symm e)) hc2 (by rw [ao,hb]; rfl) (fun j b e=> ?_) (fun b ob n1 n2 e=>up _ _ n1 (c4 _ _ n2 (hs b ob n1 n2 e))) hR⟩) (by rw [sz]; omega) (by show((bs.map ak).toArray.push _).size<=sizeLine+1; rw [Array.size_push,sz]; omega)
  ·rw [Cn]at e
   split at e
   ·obtain⟨hj,e2⟩:=hp j b e
    refine⟨hj,up _ _ (by rintro rfl; rw [hL]at e2; exact absurd (show cq "list"=cq "tuple" from congrArg Obj.cls (aC e2)) (by decide)) (c4 _ _ (by rintro rfl; rw [hI]at e2; exact absurd (show cq "dict_itemiterator"=cq "tuple" from congrArg Obj.cls (aC e2)) (by decide)) e2)⟩
   ·rename_i hn
    have ej:j - bs.length=0:=by
     rcases kY (j - bs.length)with z | z
     ·exact z
     ·rw [bq (by simp; omega)]at e; cases e
    rw [ej]at e
    have hj:j=i:=by omega
    subst hj
    cases e
    exact⟨hi,up _ _ (bP hLlt) c3⟩
theorem uw{Q:List Value->ah->Prop}(hh:A.handled=none)(hv:s.heap.get? v=some (xI d))(x:lj s.heap d es ep)(lu:es.size<=sizeLine)
  (hQ: ∀(h':Heap) (bs:List Addr),s.heap.objs.size < h'.objs.size->(∀b ob,s.heap.get? b=some ob->h'.get? b=some ob)->bs.length=es.size->(∀b∈bs,s.heap.objs.size<=b)->(∀j b,bs[j]? =some b-> ∃hj:j < es.size,h'.get? b=some (fJ es[j]))->Q (bs.map ak) {s with heap:=h'}):wpAny (model prog w) A (collect (.ref v)) Q E s:=by
 have hlt:v < s.heap.objs.size:=au hv
 have hltd:d < s.heap.objs.size:=let⟨o,k1,_⟩:=x.ex; au k1
 unfold collect
 refine aa (wR (c8 vm ?_))
 rw [cy vn _]
 show wpAny _ A.in1 (newList [] >>=fun l=>again (.builtin "list.__iadd__" ⟨[l, .ref v], []⟩)) _ _ s
 refine aa (bb ?_)
 refine af ⟨dz fW _,c8 y4 ?_⟩
 rw [cy fW _]
 have x1:lj (s.heap.push {cls:= .type "list",data:= .seq ([]:List Value).toArray}) d es ep:=x.at fun o e=>ag _ e
 have hS₁:(s.heap.push {cls:= .type "list",data:= .seq ([]:List Value).toArray}).get? s.heap.objs.size=some {cls:= .type "list",data:= .seq ([]:List Value).toArray}:=aw _ rfl
 have h1:fF (.ref s.heap.objs.size) (.ref v)=false:=by simp [fF,bP hlt]
 have ty:gF {s with heap:=s.heap.push {cls:= .type "list",data:= .seq ([]:List Value).toArray}} (.ref v) "dict_items":=⟨_,ag _ hv,rfl⟩
 show wpAny _ A.in1 (eL (.ref s.heap.objs.size) (.ref v) (.ref s.heap.objs.size)) _ _ _
 unfold eL
 refine aa (fv ty ?_)
 rw [if_neg (by rw [h1]; decide)]
 refine aa (zm (s:={s with heap:=s.heap.push {cls:= .type "list",data:= .seq ([]:List Value).toArray}}) (ag _ hv) x1 ?_)
 refine aa (bG ?_)
 unfold vo
 have x2:lj ((s.heap.push {cls:= .type "list",data:= .seq ([]:List Value).toArray}).push (g8 .none (.bool false) .none .none d 0 es.size ep)) d es ep:=x1.at fun o e=>ag _ e
 have ty2:gF {s with heap:=(s.heap.push {cls:= .type "list",data:= .seq ([]:List Value).toArray}).push (g8 .none (.bool false) .none .none d 0 es.size ep)} (.ref v) "dict_items":=⟨_,ag _ (ag _ hv),rfl⟩
 refine aa (gB ty2 PySem.F.slot_dict_items_len.lookup ?_)
 generalize hid:("dict_items.__len__":String)=id0
 dsimp only
 rw [show splitId id0=some ("dict_items","__len__")from by subst hid; decide +kernel]
 subst hid
 dsimp only
 refine aa (eS (b:=true) ty2 (by rw [o4]; kernel_rfl) ?_)
 rw [if_neg (show ¬(!true)=true by decide)]
 refine dI (fun _=> ?_) fun hs=>(hs (by decide +kernel)).elim
 refine aa (fv ty2 (af ?_))
 have szl:(s.heap.push {cls:= .type "list",data:= .seq ([]:List Value).toArray}).objs.size=s.heap.objs.size+1:=cB ..
 have hne:s.heap.objs.size≠(s.heap.push {cls:= .type "list",data:= .seq ([]:List Value).toArray}).objs.size:=by rw [szl]; exact aE (fU _)
 have hId:(s.heap.push {cls:= .type "list",data:= .seq ([]:List Value).toArray}).objs.size≠d:=by rw [szl]; exact bP (cv hltd)
 have hL2:((s.heap.push {cls:= .type "list",data:= .seq ([]:List Value).toArray}).push (g8 .none (.bool false) .none .none d 0 es.size ep)).get? s.heap.objs.size=some {cls:= .type "list",data:= .seq ([]:List Value).toArray}:=ag _ hS₁
 have hI2:((s.heap.push {cls:= .type "list",data:= .seq ([]:List Value).toArray}).push (g8 .none (.bool false) .none .none d 0 es.size ep)).get? (s.heap.push {cls:= .type "list",data:= .seq ([]:List Value).toArray}).objs.size=some (g8 .none (.bool false) .none .none d 0 es.size ep):=aw _ rfl
 have hk2: ∀b ob,s.heap.get? b=some ob->((s.heap.push {cls:= .type "list",data:= .seq ([]:List Value).toArray}).push (g8 .none (.bool false) .none .none d 0 es.size ep)).get? b=some ob:=fun b ob e=>ag _ (ag _ e)
 generalize hI0:(s.heap.push {cls:= .type "list",data:= .seq ([]:List Value).toArray}).objs.size=I0 at hne hId hI2 szl ⊢
 generalize hH0:(s.heap.push {cls:= .type "list",data:= .seq ([]:List Value).toArray}).push (g8 .none (.bool false) .none .none d 0 es.size ep)=H0 at hL2 hI2 hk2 x2 ⊢
 have fin: ∀(h':Heap) (c:Nat),bH s.heap.objs.size H0 h'->h'.get? s.heap.objs.size=some {cls:= .type "list",dict:=none,data:= .seq #[] c,slots:= #[]}->
   fu (model prog w) A (.builtin "list.extend.loop" ⟨[.ref s.heap.objs.size, .ref I0, .ref s.heap.objs.size], []⟩) (fun r s'=>match r with
       | t_ (Flow.ret v)=>
        wpAny (model prog w) A
         (match v with
         | ak a=>do
          let __do_lift<-load a
          match __do_lift.data with
           | wN xs epoch=>pure xs.toList
           | x=>iY "internal:collect"
         | x=>iY "internal:collect")
         Q E s'
       | t_ a=>False
       | Except.error e=>E e s') {s with heap:=h'}:=fun h' c sb hl=>by
  refine wA (s0:=s) (L:=s.heap.objs.size) (by simpa using hh) lu hne hId (bP hltd) (m0:=s.heap.objs.size) es.size 0 h' [] c (i9 (au hl)) (fun b hb=>by cases hb) (by omega) (bQ _) ⟨_,_,_,_, .inl rfl,(sb.2 I0 hne.symm).trans hI2⟩ (x2.at fun o e=>(sb.2 d (aE hltd)).trans e) hl rfl (fun j b e=>by cases e) (fun b ob h1 h2 e=>(sb.2 b h1).trans (hk2 b ob e)) (fun h2 bs c' q0 q1 q2 q3 q4=> ?_)
  dsimp only
  refine aa (wpAny_load q1 ?_)
  refine af ?_
  show Q (bs.map ak) _
  refine hQ h2 bs (au q1) (fun b ob e=> ?_) q2 q0 q3
  have hb:=au e
  exact q4 b ob (aE hb) (by rw [szl]; exact aE (cv hb)) e
 refine dI (fun _=> ?_) fun _=> ?_
 ·refine aa (e7 ?_)
  unfold Ac
  refine aa (aa (iA hL2 rfl ?_ (by show 0<=_; omega) (by show 1<=_; rw [eO]; omega)))
  have hL3:=fm hL2 fun x=>x.push aY
  refine iA hL3 rfl ?_ (by show 1<=_; rw [eO]; omega) (by show 0<=_; omega)
  have hL4:=fm hL3 fun x=>x.pop
  exact af ⟨dz cz _,fin _ _ ((bB ..).trans (bB ..)) hL4⟩
 ·exact af ⟨dz cz _,fin _ _ (dC _ _) hL2⟩
end
section
variable {prog:aq}{w:World}{A:bh}{E:Value->ah->Prop}{s:ah}{d v:Addr}{es:Array dR}{ep:Nat}
theorem yA{pr:List (Value×gP)}{m:Nat}{Q:Value->ah->Prop}(hh:A.handled=none)(hu:A.units+8 < cLine)(hd:(d==iR)=false)(x:lj s.heap d es ep)(lu:es.size<=sizeLine)(he:es.toList.map (·.key)=pr.map (·.1))(y: ∀q∈pr, ∃b,q.1=ak b/\T2 prog w s.heap q.2 b)(hm: ∀q∈pr,q.2.length=m)(m0:0 < m)(nk:(pr.map (·.2)).Nodup)
  (h: ∀(h':Heap) (tk D:Nat) (out:List Value) (c:Nat),s.heap.objs.size<=D->oF lP pr out->h'.get? D=some (cL "list" out.toArray c)->(∀b ob,s.heap.get? b=some ob->h'.get? b=some ob)->Q (.ref D) {s with heap:=h',toks:=tk}):
  wpAny (model prog w) A (call (.builtin "sorted") [.ref d]) Q E s:=by
 refine w9 kind_sorted plain_sorted entry_sorted (args_sorted1 _) ?_
 unfold c6.«sorted»
 refine aa (m:=checkCount "sorted" 1 1 _) (af ?_)
 refine aa (xg (by simpa using hh) hd x lu fun h1 tk hsz hk=> ?_)
 rw [he]
 have lp:pr.length=es.size:=by rw [<-aj, <-ae (f:=fun e:dR=>e.key),he,ae]
 refine aa (yR ?_ (by rw [ae,lp]; exact lu))
 have hoL:(h1.push (cL "list" (pr.map (·.1)).toArray 0)).get? h1.objs.size=some (cL "list" (pr.map (·.1)).toArray 0):=aw _ rfl
 have hk2: ∀b ob,s.heap.get? b=some ob->(h1.push (cL "list" (pr.map (·.1)).toArray 0)).get? b=some ob:=fun b ob e=>ag _ (hk b ob e)
 have ltb: ∀b ob,s.heap.get? b=some ob->b≠h1.objs.size:=fun b ob e=>aE (Nat.lt_trans (au e) hsz)
 show wpAny _ _ _ _ _ {s with heap:=h1.push (cL "list" (pr.map (·.1)).toArray 0),toks:=tk}
 refine aa (bG (bI slot_list_sort ⟨_,hoL,rfl⟩ IV ?body (args_list_sort _)))
 case body=>
  refine GF (s:={s with heap:=h1.push (cL "list" (pr.map (·.1)).toArray 0),toks:=tk}) (pr:=pr) (m:=m) (by simp only [jB]; omega) hoL (by rw [lp]; exact lu) (fun q hq=> ?_) hm m0 nk fun h' out c hp2 hg2 hk3=> ?_
  ·obtain⟨b,e,t⟩:=y q hq
   exact⟨b,e,t.keep fun c o _ z=>hk2 c o z⟩
  ·exact⟨_,rfl,af ⟨_,rfl,h h' tk h1.objs.size out c (i9 hsz) hp2 hg2 fun b ob e=>hk3 b ob (ltb b ob e) (hk2 b ob e)⟩⟩
theorem GS{h:Heap}{a b:Addr}{rs:gP}{n:Int}{t:Tok}{e:dR}(ha:h.get? a=some (fJ e))(hk:e.key= .ref b)(hv:e.val= .int n t)(x:T2 prog w h rs b):T3 prog w h (rs,n) a:=by
 refine⟨_,0,b,t,ha,rfl, ?_,x⟩
 show wN #[e.key,e.val] 0=_
 rw [hk,hv]
theorem wy{ks:List (gP×Int)}{Q:Value->ah->Prop}(hh:A.handled=none)(hu:A.units+8 < cLine)(hv:s.heap.get? v=some (xI d))(x:lj s.heap d es ep)(lu:es.size<=sizeLine)(hl:ks.length=es.size)(y: ∀j (hj:j < es.size), ∃b t,es[j].key=ak b/\es[j].val= .int (ks[j]'(by omega)).2 t/\T2 prog w s.heap (ks[j]'(by omega)).1 b)(nk:ks.Nodup)
  (h: ∀(h':Heap) (D:Nat) (bs:List Addr) (out:List Value) (c:Nat),s.heap.objs.size<=D->bs.length=ks.length->(∀b∈bs,s.heap.objs.size<=b)->(∀j b,bs[j]? =some b-> ∃hj:j < es.size,h'.get? b=some (fJ es[j]))->oF p0 ((bs.map ak).zip ks) out->h'.get? D=some (cL "list" out.toArray c)->(∀b ob,s.heap.get? b=some ob->h'.get? b=some ob)->Q (.ref D) {s with heap:=h'}):
  wpAny (model prog w) A (call (.builtin "sorted") [.ref v]) Q E s:=by
 refine w9 kind_sorted plain_sorted entry_sorted (args_sorted1 _) ?_
 unfold c6.«sorted»
 refine aa (m:=checkCount "sorted" 1 1 _) (af ?_)
 refine aa (uw (by simpa using hh) hv x lu fun h1 bs hsz hk hbl hnew hb=> ?_)
 refine aa (yR ?_ (by rw [ae,hbl]; exact lu))
 have hoL:(h1.push (cL "list" (bs.map ak).toArray 0)).get? h1.objs.size=some (cL "list" (bs.map ak).toArray 0):=aw _ rfl
 have hk2: ∀b ob,h1.get? b=some ob->(h1.push (cL "list" (bs.map ak).toArray 0)).get? b=some ob:=fun b ob e=>ag _ e
 have ltb: ∀b ob,h1.get? b=some ob->b≠h1.objs.size:=fun b ob e=>aE (au e)
 have e1:((bs.map ak).zip ks).map (·.1)=bs.map ak:=List.map_fst_zip (by rw [ae]; omega)
 have e2:((bs.map ak).zip ks).map (·.2)=ks:=mF (by rw [ae]; omega)
 show wpAny _ _ _ _ _ {s with heap:=h1.push (cL "list" (bs.map ak).toArray 0)}
 refine aa (bG (bI slot_list_sort ⟨_,hoL,rfl⟩ IV ?body (args_list_sort _)))
 case body=>
  refine Gw (s:={s with heap:=h1.push (cL "list" (bs.map ak).toArray 0)}) (pr:=(bs.map ak).zip ks) (by simp only [jB]; omega) (by rw [e1]; exact hoL) (by rw [b9,ae]; omega) (fun q hq=> ?_) (by rw [e2]; exact nk) fun h' out c hp2 hg2 hk3=> ?_
  ·obtain⟨j,hj,rfl⟩:=aN.mp hq
   rw [b9,ae]at hj
   have hj1:j < bs.length:=by omega
   have hj2:j < es.size:=by omega
   obtain⟨_,hp⟩:=hb j bs[j] (ai hj1)
   obtain⟨b,t,y1,y2,y3⟩:=y j hj2
   rw [fX]
   refine⟨bs[j],by rw [aS], ?_⟩
   exact GS (hk2 _ _ hp) y1 y2 (y3.keep fun c o _ z=>hk2 _ _ (hk c o z))
  ·refine⟨_,rfl,af ⟨_,rfl,h h' h1.objs.size bs out c (i9 hsz) (by omega) hnew (fun j b e=> ?_) hp2 hg2 fun b ob e=>hk3 b ob (ltb b ob (hk b ob e)) (hk2 b ob (hk b ob e))⟩⟩
   obtain⟨hj,q⟩:=hb j b e
   exact⟨hj,hk3 b _ (ltb b _ q) (hk2 b _ q)⟩
end
section
variable {prog:aq}{w:World}{K:Type} [DecidableEq K]{knd:HeapKind prog w K}{A:bh}{E:Value->ah->Prop}{s:ah}{env:Env}
theorem C1{k v:Expr}{pos:Pos}{Q:Value->ah->Prop}(hu:knd.room A)
  (h:wpAny (model prog w) A (eval k env) (fun kv s1=>wpAny (model prog w) A (eval v env) (fun vv s2=> ∃a r,kv= .ref a/\knd.is s2.heap r a/\s2.heap.DictOfH knd s.heap.objs.size []/\
   ∀h',h'.DictOfH knd s.heap.objs.size [(r,a,vv)]->bH s.heap.objs.size s2.heap h'->Q (.ref s.heap.objs.size) {s2 with heap:=h',toks:=s2.toks+knd.draws r}) E s1) E {s with heap:=s.heap.push {cls:= .type "dict",data:= .dict #[]}}):
  wpAny (model prog w) A (eval (.Dict [some k] [v] pos) env) Q E s:=by
 rw [arm_eval_Dict,zip_pairTrees [some k] [v] env pos rfl rfl,dictDisplay_pairs _ (by simp [pairTrees]) (by simp [pairTrees])]
 refine aa (pU (aa ?_))
 unfold subDict
 refine aa (wpAny_alloc ?_)
 refine aa (bG ?_)
 rw [if_pos (by simp [pairTrees])]
 refine aa (pairTrees_cons_walk (bN h (fun kv s1 h1=>bN h1 (fun vv s2 h2=>pairTrees_nil_walk ?_) fun _ _ e=>e) fun _ _ e=>e))
 obtain⟨a,r,rfl,hk,hm,hQ⟩:=h2
 refine bG ?_
 rw [cP]
 refine aa (aa (aa (wpAny_dictSet_heap (hsz:=by show 0<=_; omega) hu hk hm fun h' hm' hs'=>af ?_)))
 dsimp only
 rw [fV]
 refine af (af (af (af ?_)))
 exact hQ h' hm' hs'
end
end Z
namespace Z
open PySem PySem.Spec PyProof.Rows L2
def zO(r:List Int):D:= .tup (r.map .int)
def lV(rs:gP):D:= .tup (rs.map zO)
abbrev og:=List (gP×Int)
def p9(kv:og):D:= .dct (kv.map fun x=>lV x.1) (kv.map (·.2))
theorem uL: ∀r:List Int,i7 (r.map .int)=r.map hashInt
 | []=>rfl
 | x::r=>by rw [bf,bf, <-uL r]; rfl
theorem EZ(P:aq)(w:World)(r:List Int):pb (zO r)=(kx (fG P w)).hash r:=by
 show wO (fk (i7 (r.map .int)))=_
 rw [uL]
 rfl
theorem u_(P:aq)(w:World): ∀rs:gP,i7 (rs.map zO)=rs.map (kx (fG P w)).hash
 | []=>rfl
 | x::r=>by
  rw [bf,bf, <-u_ P w r, <-EZ P w x]
  rfl
theorem vG(P:aq)(w:World)(rs:gP):pb (lV rs)=uN P w rs:=by
 show wO (fk (i7 (rs.map zO)))=_
 rw [u_ P w]
 rfl
section
variable {X:Cx}{pins:List (Addr×Obj)}{σ:St}{H:Hp}{s:ah}{M:MP}
theorem xU: ∀{r:List Int} {us:List Value},Vals (r.map V.int) us->kW (fG X.prog X.w) r us
 | [],_,h=>by rw [qS]at h; cases h; exact .nil
 | x::r,_,h=>by
  rw [bf]at h
  cases h with
  | cons a t=>
   obtain⟨tk,rfl⟩:=(show ∃t,_=gD x t from a)
   exact .cons (by show Value.isInt x (.int x tk)=true; simp [Value.isInt]) (xU t)
theorem KU(I:Inv X pins σ H s){r:List Int}{v:V}{u:Value}(h:Dn X.K M H (zO r) v)(rv:RelV v u): ∃b,u= .ref b/\T1 X.prog X.w s.heap r b:=by
 obtain⟨a,xs,rfl,sq,dn⟩:=h
 cases (show u=ak a from rv)
 obtain⟨its,rr,⟨o,e1,e2,m,e3⟩,_⟩:=I.tuple sq
 rw [cA.ints dn]at rr
 exact⟨a,rfl,o,its.toArray,m,e1,e2,e3,by simpa using xU rr⟩
theorem CN(I:Inv X pins σ H s): ∀{rs:gP} {vs:List V} {us:List Value},cA X.K M H (rs.map zO) vs->Vals vs us->qK X.prog X.w s.heap rs us
 | [],vs,us,h,r=>by cases (show vs= []from h); cases r; exact .nil
 | x::rs,vs,us,h,r=>by
  obtain⟨v,t,rfl,h1,h2⟩:=h
  cases r with
  | cons r1 r2=>
   obtain⟨b,rfl,t1⟩:=KU I h1 r1
   exact .cons t1 (CN I h2 r2)
theorem rF(I:Inv X pins σ H s){rs:gP}{v:V}{u:Value}(h:Dn X.K M H (lV rs) v)(rv:RelV v u): ∃b,u= .ref b/\v= .ref b/\T2 X.prog X.w s.heap rs b:=by
 obtain⟨a,xs,rfl,sq,dn⟩:=h
 cases (show u=ak a from rv)
 obtain⟨its,rr,⟨o,e1,e2,m,e3⟩,_⟩:=I.tuple sq
 exact⟨a,rfl,rfl,o,its.toArray,m,e1,e2,e3,by simpa using CN I dn rr⟩
theorem rq: ∀{kv:og} {bs:List Addr} {es:List dR},bs.length=kv.length->ng (pJ (kv.map fun x=>lV x.1) bs (kv.map (·.2))) es-> ∃xs:List (gP×Addr×Value),es=xs.map (wI (n9 X.prog X.w))/\xs.length=kv.length/\ ∀j (hj:j < kv.length) (hx:j < xs.length) (hb:j < bs.length), ∃t,xs[j]=(kv[j].1,bs[j], .int kv[j].2 t)
 | [],bs,es,hb,h=>by
  cases es with
  | nil=>exact⟨[],rfl,rfl,fun j hj=>absurd hj (by simp)⟩
  | cons e es=>cases bs <;> exact h.elim
 | x::kv, [],es,hb,h=>by simp at hb
 | x::kv,b::bs,es,hb,h=>by
  cases es with
  | nil=>exact h.elim
  | cons e es=>
   obtain⟨⟨t,e1⟩,h2⟩:=h
   obtain⟨xs,a1,a2,a3⟩:=rq (kv:=kv) (bs:=bs) (es:=es) (by simpa using hb) h2
   refine⟨(x.1,b, .int x.2 t)::xs, ?_,by rw [aH,a2]; rfl,fun j hj hx hbj=> ?_⟩
   ·rw [bf,a1,e1]
    show(⟨pb (lV x.1), .ref b, .int x.2 t⟩:dR)::_=_
    rw [vG X.prog X.w]
    rfl
   ·cases j with
    | zero=>exact⟨t,rfl⟩
    | succ j=>exact a3 j (by simpa using hj) (by simpa using hx) (by simpa using hbj)
theorem cA.refs{ks:List D}{bs:List Addr}{K:Frag}(h:cA K M H ks (bs.map V.ref)){j:Nat}{k:D}{b:Addr}(h1:ks[j]? =some k)(h2:bs[j]? =some b):Dn K M H k (.ref b):=by
 obtain⟨v,e,d⟩:=h.get h1
 rw [ax,h2]at e
 cases e
 exact d
structure xx(X:Cx)(s:ah)(kv:og)(a:Addr)(xs:List (gP×Addr×Value)):Prop where
 no:(a==iR)=false
 d:s.heap.DictOfH (n9 X.prog X.w) a xs
 len:xs.length=kv.length
 it: ∀j (hj:j < kv.length) (hx:j < xs.length), ∃b t,xs[j]=(kv[j].1,b, .int kv[j].2 t)
theorem IF(I:Inv X pins σ H s){kv:og}{a:Addr}{bs:List Addr}(nd:(kv.map (·.1)).Nodup)(h:H a=some (ke a (pJ (kv.map fun x=>lV x.1) bs (kv.map (·.2)))))(hb:bs.length=kv.length)(dn:cA X.K M H (kv.map fun x=>lV x.1) (bs.map V.ref)): ∃xs,xx X s kv a xs:=by
 obtain⟨⟨no,o,es,ep,h1,h2,h3,h4⟩,_⟩:=(show fC X.prog X.w H s.heap a (ke a _)from I.dO a _ h)
 obtain⟨xs,a1,a2,a3⟩:=rq (X:=X) hb h4
 have ks:xs.map (·.1)=kv.map (·.1):=by
  apply List.ext_getElem (by rw [ae,ae,a2])
  intro j hj1 hj2
  rw [ae]at hj1 hj2
  obtain⟨t,e⟩:=a3 j hj2 hj1 (by omega)
  rw [aS,aS,e]
 refine⟨xs,no,⟨o,es,ep,h1,h2,h3,a1,fun x hx=> ?_,by rw [ks]; exact nd⟩,a2,fun j hj hx=> ?_⟩
 ·obtain⟨j,hj,rfl⟩:=aN.mp hx
  have hj2:j < kv.length:=by omega
  obtain⟨t,e⟩:=a3 j hj2 hj (by omega)
  rw [e]
  have d:=dn.refs (j:=j) (k:=lV kv[j].1) (b:=bs[j]'(by omega)) (by rw [ax,ai hj2]; rfl) (ai _)
  obtain⟨b,e2,_,t2⟩:=rF I d (u:= .ref (bs[j]'(by omega))) rfl
  cases e2
  exact t2
 ·obtain⟨t,e⟩:=a3 j hj hx (by omega)
  exact⟨_,t,e⟩
theorem xx.look{kv:og}{a:Addr}{xs:List (gP×Addr×Value)}(x:xx X s kv a xs){k:gP}{n:Int}(h:(k,n)∈kv): ∃b t,atKey xs k=some (b, .int n t):=by
 obtain⟨j,hj,e⟩:=aN.mp h
 have hl:=x.len
 obtain⟨b,t,e2⟩:=x.it j hj (by omega)
 obtain⟨o,es,ep,_,_,_,_,_,nd⟩:=x.d
 refine⟨b,t,atKey_of_get nd (i:=j) ?_⟩
 rw [ai (by omega),e2,e]
theorem xx.miss{kv:og}{a:Addr}{xs:List (gP×Addr×Value)}(x:xx X s kv a xs){k:gP}(h:k∉kv.map (·.1)):atKey xs k=none:=by
 refine atKey_none_of_get fun j p e=>h ?_
 obtain⟨hj,e⟩:=aD.mp e
 have hl:=x.len
 obtain⟨b,t,e2⟩:=x.it j (by omega) hj
 rw [e]at e2
 cases e2
 exact a9.mpr ⟨_,aR (by omega:j < kv.length),rfl⟩
theorem xx.has{kv:og}{a:Addr}{xs:List (gP×Addr×Value)}(x:xx X s kv a xs)(k:gP):(atKey xs k).isSome=decide (k∈kv.map (·.1)):=by
 by_cases h:k∈kv.map (·.1)
 ·obtain⟨⟨k',n⟩,hm,rfl⟩:=a9.mp h
  obtain⟨b,t,e⟩:=x.look hm
  rw [e,decide_eq_true h]
  rfl
 ·rw [x.miss h,decide_eq_false h]
  rfl
end
section
variable {X:Cx}{ρ:eT}{a b e:Expr}{pos p:Pos}{kv:og}{k:gP}{n:Int}
def Ls(K:Frag)(kv:og):V->Hp->Prop:=fun x H=> ∃M,Dn K M H (p9 kv) x
theorem Ls.at{pins:List (Addr×Obj)}{σ:St}{H:Hp}{s:ah}{x:V}{u:Value}(nd:(kv.map (·.1)).Nodup)(I:Inv X pins σ H s)(h:Ls X.K kv x H)(r:RelV x u): ∃a xs,u= .ref a/\xx X s kv a xs:=by
 obtain⟨M,a,bs,rfl,h1,h2,h3,h4⟩:=h
 cases (show u=ak a from r)
 rw [ae]at h2
 obtain⟨xs,q⟩:=IF I nd h1 h2 h4
 exact⟨a,xs,rfl,q⟩
theorem Ku(hu:X.A.units+8 < cLine)(nd:(kv.map (·.1)).Nodup)(hm:(k,n)∈kv):Lz X (fun x y H Q=>Ls X.K kv x H/\(∃M,Dn X.K M H (lV k) y)/\Q (.int n) H):=by
 intro value slice pins s σ H x y v u Q I rx ry ⟨h1,⟨M,h2⟩,q⟩ hs
 obtain⟨a,xs,rfl,dc⟩:=h1.at nd I rx
 obtain⟨b,rfl,_,t2⟩:=rF I h2 ry
 obtain⟨c,t,e⟩:=dc.look hm
 exact z9 (x:= .int n t) dc.d.typeIs slot_dict_getitem.lookup (wpAny_getItem_heap (knd:=n9 X.prog X.w) (Q:=fun r s'=>r= .int n t/\EP X pins σ Q r s') (by show X.A.in1.units+2 < cLine; rw [jB]; omega) t2 dc.d e ⟨rfl, .int n,H,I.tok _,⟨t,rfl⟩,q⟩) hs
theorem av.dget(hu:X.A.units+8 < cLine)(nd:(kv.map (·.1)).Nodup)(hm:(k,n)∈kv)(ha:av X ρ a (p9 kv))(hb:av X ρ b (lV k))(hs:pv b:=by intro _ _; rfl):av X ρ (.Subscript a b pos) (.int n):=
 fun M0 H0 γ α σ H Q R kk=>(Ek (Ku hu nd hm) g7 g7 hs).to (ha M0 H0 γ α σ H _ R fun v H1 s1 d1=>hb M0 H0 γ α σ H1 _ (R.next s1) fun u H2 s2 d2=>⟨⟨_,d1.same s2⟩,⟨_,d2⟩,kk _ H2 (s1.trans s2) rfl⟩)
theorem zd(hu:X.A.units+8 < cLine)(nd:(kv.map (·.1)).Nodup):nX X (cC .NotIn) (fun x y H Q=>(∃M,Dn X.K M H (lV k) x)/\Ls X.K kv y H/\Q (.bl (!decide (k∈kv.map (·.1)))) H):=by
 intro pins s σ H x y v u Q I rx ry ⟨⟨M,h1⟩,h2,q⟩
 obtain⟨a,xs,rfl,dc⟩:=h2.at nd I ry
 obtain⟨b,rfl,_,t2⟩:=rF I h1 rx
 refine wpAny_notIn_heap (knd:=n9 X.prog X.w) (by show X.A.in1.units+2 < cLine; rw [jB]; omega) t2 dc.no dc.d ?_
 rw [dc.has]
 exact⟨.bl _,H,I.tok _,rfl,q⟩
theorem cG.notInDc(hu:X.A.units+8 < cLine)(nd:(kv.map (·.1)).Nodup)(ha:av X ρ a (lV k))(hb:av X ρ b (p9 kv))(hm:fE .NotIn b=false:=by rfl):cG X ρ (.Compare a [.NotIn] [b] pos) (!decide (k∈kv.map (·.1))):=
 fun M0 H0 γ α σ H Q R kk=>(As (zd hu nd) g7 g7 hm).to (ha M0 H0 γ α σ H _ R fun v H1 s1 d1=>hb M0 H0 γ α σ H1 _ (R.next s1) fun u H2 s2 d2=>⟨⟨_,d1.same s2⟩,⟨_,d2⟩,_,rfl,kk H2 (s1.trans s2)⟩)
end
section
variable {α:Type}{lt:α->α->Bool}
def B0(lt:α->α->Bool)(x:α):List α->List α
 | []=> [x]
 | y::l=>if lt x y then x::y::l else y::B0 lt x l
def rH(lt:α->α->Bool)(l:List α):List α:=l.foldr (B0 lt) []
theorem qb(x:α): ∀l:List α,(B0 lt x l).Perm (x::l)
 | []=>dD _
 | y::l=>by
  unfold B0
  split
  ·exact dD _
  ·exact((qb x l).cons y).trans (List.Perm.swap _ _ _)
theorem qf: ∀l:List α,(rH lt l).Perm l
 | []=>dD _
 | x::l=>(qb x _).trans ((qf l).cons x)
theorem Ag(o:oy lt)(x:α): ∀l:List α,x∉l->l.Pairwise (fun a b=>lt a b=true)->(B0 lt x l).Pairwise (fun a b=>lt a b=true)
 | [],_,_=>y7 _ _
 | y::l,hx,h=>by
  have h':=bW.mp h
  unfold B0
  split
  ·rename_i e
   refine bW.mpr ⟨fun z hz=> ?_,h⟩
   rcases aK.mp hz with rfl | hz
   ·exact e
   ·exact o.tr _ _ _ e (h'.1 z hz)
  ·rename_i e
   have e:lt x y=false:=by simpa using e
   refine bW.mpr ⟨fun z hz=> ?_,Ag o x l (fun z=>hx (.tail _ z)) h'.2⟩
   rcases aK.mp ((qb x l).mem_iff.mp hz)with rfl | hz
   ·exact o.tot _ _ (fun q=>hx (q▸ .head _)) e
   ·exact h'.1 z hz
theorem AE(o:oy lt): ∀l:List α,l.Nodup->(rH lt l).Pairwise (fun a b=>lt a b=true)
 | [],_=>fw
 | x::l,h=>Ag o x _ (fun z=>(eF.mp h).1 ((qf l).mem_iff.mp z)) (AE o l (eF.mp h).2)
theorem xT(o:oy lt): ∀{a b:List α},a.Pairwise (fun a b=>lt a b=true)->b.Pairwise (fun a b=>lt a b=true)->a.Perm b->a=b
 | [],b,_,_,h=>(List.perm_nil.mp h.symm).symm
 | x::a, [],_,_,h=>by cases List.perm_nil.mp h
 | x::a,y::b,ha,hb,h=>by
  have ha':=bW.mp ha
  have hb':=bW.mp hb
  have e:x=y:=by
   rcases aK.mp (h.mem_iff.mp (.head _))with e | e
   ·exact e
   ·rcases aK.mp (h.symm.mem_iff.mp (.head _))with q | q
    ·exact q.symm
    ·have h1:=hb'.1 x e
     have h2:=ha'.1 y q
     rw [o.DI _ _ h1]at h2
     cases h2
  subst e
  rw [xT o ha'.2 hb'.2 h.cons_inv]
theorem u0(o:oy lt){a l:List α}(ha:a.Pairwise (fun a b=>lt a b=true))(h:a.Perm l)(nd:l.Nodup):a=rH lt l:=xT o ha (AE o l nd) (h.trans (qf l).symm)
end
section
variable {X:Cx}{pins:List (Addr×Obj)}{σ:St}{H H':Hp}{s:ah}{h':Heap}
theorem E9{t':Nat}(I:Inv X pins σ H s)(k: ∀b u,s.heap.get? b=some u->h'.get? b=some u)(old: ∀b,b < s.heap.objs.size->H' b=H b)(new: ∀b u,s.heap.objs.size<=b->H' b=some u->fC X.prog X.w H' h' b u):Inv X pins σ H' {s with heap:=h',toks:=t'}:=by
 have up: ∀b u,H b=some u->H' b=some u:=fun b u e=>by rw [old b (I.dO.lt e)]; exact e
 refine I.un ⟨fun b u q _ _ _=>k b u q,fun b u q _ _ _=>⟨u.slots,k b u q⟩,fun b u q n _=>by rw [old b (au q)]; exact n,fun b u q _=>⟨u,k b u q⟩,fun b xs q=>up b _ q,fun b u xs q=>up b _ q,fun b ps q=>⟨#[],by rw [up b _ q]; simp⟩⟩ fun b u e=> ?_
 by_cases hb:b < s.heap.objs.size
 ·rw [old b hb]at e
  exact(I.dO b u e).stay (fun c v _ q=>k c v q) (fun c q=>up c _ q) fun c xs q=>up c _ q
 ·exact new b u (tY hb) e
end
section
variable {X:Cx}{ρ:eT}{e:Expr}{pos p p2 p3:Pos}{kv:og}{m:Nat}
theorem xw{bs:List Addr}(hb:bs.length=kv.length):(bs.zip (kv.map (·.1))).map (·.2)=kv.map (·.1):=mF (by rw [ae]; omega)
theorem cA.mapZ{K:Frag}{M:MP}{H:Hp}{β:Type}{f:β->D}{g:β->V}: ∀{l:List β},(∀x∈l,Dn K M H (f x) (g x))->cA K M H (l.map f) (l.map g)
 | [],_=>rfl
 | x::l,h=>⟨g x,_,rfl,h x (.head _),cA.mapZ fun y hy=>h y (.tail _ hy)⟩
theorem CY{β:Type}{g:β->V}{g':β->Value}: ∀{l:List β},(∀x∈l,RelV (g x) (g' x))->Vals (l.map g) (l.map g')
 | [],_=> .nil
 | x::l,h=> .cons (h x (.head _)) (CY fun y hy=>h y (.tail _ hy))
theorem uv(hh:X.A.handled=none)(hu:X.A.units+8 < cLine)(nd:(kv.map (·.1)).Nodup)(hm: ∀x∈kv,x.1.length=m)(m0:0 < m)(lu:kv.length<=sizeLine):gK X (.builtin "sorted") (fun xs H Q=> ∃q M,xs= [.ref q]/\Dn X.K M H (p9 kv) (.ref q)/\ ∀l ys,H l=none->cA X.K M H ((rH lP (kv.map (·.1))).map lV) ys->Q (.ref l) (upd H l (.lst ys))):=by
 intro pins s σ H xs us Q I r ⟨q,M,e,dn,k⟩
 subst e
 obtain⟨u,rfl,rx⟩:=vals1 r
 cases rx
 obtain⟨a,bs,ea,h1,h2,h3,h4⟩:=dn
 cases ea
 rw [ae]at h2
 obtain⟨⟨no,o,es,ep,g1,g2,g3,g4⟩,_⟩:=(show fC X.prog X.w H s.heap q (ke q _)from I.dO q _ h1)
 obtain⟨zs,a1,a2,a3⟩:=rq (X:=X) h2 g4
 have t2: ∀x∈bs.zip (kv.map (·.1)),Dn X.K M H (lV x.2) (.ref x.1):=fun x hx=>by
  obtain⟨j,hj,rfl⟩:=aN.mp hx
  rw [b9,ae]at hj
  rw [fX,aS]
  exact h4.refs (j:=j) (by rw [ax,ai (by omega)]; rfl) (ai _)
 have hes:es.size=kv.length:=by rw [<-aj,a1,ae,a2]
 refine yA (pr:=(bs.zip (kv.map (·.1))).map fun x=>(ak x.1,x.2)) (m:=m) hh hu no ⟨o,g1,g2,g3⟩ (by rw [hes]; exact lu) ?_ (fun x hx=> ?_) (fun x hx=> ?_) m0 ?_ fun h' tk D out c hD so hg hk=> ?_
 ·rw [a1,dF,dF]
  apply List.ext_getElem (by rw [ae,ae,b9,ae]; omega)
  intro j hj1 hj2
  rw [ae]at hj1
  obtain⟨t,e⟩:=a3 j (by omega) hj1 (by omega)
  rw [aS,aS,fX]
  show(wI (n9 X.prog X.w) zs[j]).key=_
  rw [e]
  rfl
 ·obtain⟨y,hy,rfl⟩:=a9.mp hx
  obtain⟨b,e,_,t⟩:=rF I (t2 y hy) (u:= .ref y.1) rfl
  cases e
  exact⟨_,rfl,t⟩
 ·obtain⟨y,hy,rfl⟩:=a9.mp hx
  have:y.2∈kv.map (·.1):=(nP hy).2
  obtain⟨z,hz,e⟩:=a9.mp this
  show y.2.length=m
  rw [<-e]
  exact hm z hz
 ·rw [dF]
  have:((fun x:Value×gP=>x.2) ∘ fun x:Addr×gP=>(ak x.1,x.2))=fun x:Addr×gP=>x.2:=rfl
  rw [this,xw h2]
  exact nd
 ·obtain⟨qs,p1,p2',p3'⟩:=so
  obtain⟨l,l1,l2⟩:=nJ p1
  subst l2
  have ksrt:l.map (·.2)=rH lP (kv.map (·.1)):=by
   refine u0 BB ?_ ?_ nd
   ·rw [jh]at p3' ⊢
    exact p3'
   ·have:=l1.map (fun x:Addr×gP=>x.2)
    rw [xw h2]at this
    exact this
  rw [dF]at p2'
  have len:l.length<=sizeLine:=by rw [l1.length_eq,b9,ae]; omega
  refine⟨.ref D,_,I.laid (t':=tk) (fun b o e=>hk b o e) hD (o:= .lst (l.map fun x=>V.ref x.1)) ⟨by rw [ae]; exact len,out,c, ?_,hg⟩,rfl,k D _ (I.dO.fresh hD) ?_⟩
  ·rw [<-p2']
   exact CY fun x _=>rfl
  ·rw [<-ksrt,dF]
   exact cA.mapZ fun x hx=>t2 x (l1.mem_iff.mp hx)
theorem dP.sortedDc(hh:X.A.handled=none)(hu:X.A.units+8 < cLine)(nd:(kv.map (·.1)).Nodup)(hml: ∀x∈kv,x.1.length=m)(m0:0 < m)(lu:kv.length<=sizeLine)(hg:Gl X "sorted")(hm:X.mg "sorted"=none)(h:av X ρ e (p9 kv))(he:ar [e] X.env= [(false,eval e X.env)]:=by rfl):dP X ρ (.Call (.Name "sorted" p) [e] [] pos) ((rH lP (kv.map (·.1))).map lV):=fun M0 H0 γ α σ H Q R k=>
 (gZ (uv hh hu nd hml m0 lu) hg hm (by decide +kernel) (dG g7 gG he) (by decide) (by decide) he).to (h M0 H0 γ α σ H _ R fun v H1 s1 d1=>by
  have d1':=d1
  obtain⟨a,bs,rfl,_⟩:=d1
  refine⟨a,_,rfl,d1',fun l ys hl dn=>k l ys H1 _ s1 hl (bt hl) bC ?_⟩
  exact(dn.re fun b z=>z.elim .inl fun w=> .inr (by rw [w]; exact hl)).same (bt hl))
def Lx(v d:Addr):HO:= .ext fun h=>h.get? v=some (xI d)
theorem Ei{o:Expr}{to:TE}(ho:PE X o to)(hbase:jC o "items" X.env (eval o X.env)=eval o X.env:=by rfl)(hline:(p2.endLine==p3.line)=true:=by rfl):
  PE X (.Call (.Attribute o "items" p2) [] [] p3) (fun σ H Q=>to σ H fun x H1=> ∃d xs,x= .ref d/\H1 d=some (ke d xs)/\ ∀v,H1 v=none->Q (.ref v) (upd H1 v (Lx v d))):=by
 intro pins s σ H Q I h
 refine wpAny_Call_method0_late hbase hline (eN (ho pins s σ H _ I h) fun v s1 ⟨x,H1,I1,r1,d,xs,ex,hd,q⟩=> ?_)
 subst ex
 obtain rfl:v=ak d:=r1
 obtain⟨⟨no,ob,es,ep,g1,g2,g3,g4⟩,_⟩:=(show fC X.prog X.w H1 s1.heap d (ke d _)from I1.dO d _ hd)
 refine⟨"dict","dict.items",PySem.F.plainAttrs_dict,PySem.F.slot_dict_items,PySem.F.type_dict_items,⟨ob,g1,g2.1⟩,fun b q=>by cases q; exact⟨ob,g1,g2.2.1⟩,Calls.callWith_builtin rfl (PySem.evalArgs_none ?_)⟩
 refine call_meetsIn PySem.F.slot_dict_items ⟨ob,g1,g2.1⟩ PySem.F.entry_dict_items (PySem.F.args_dict_items_1 _) (B5 (es:=es) (ep:=ep) no) ⟨⟨ob,g1,g2,g3⟩, ?_⟩
 refine⟨.ref s1.heap.objs.size,_,I1.laid (t':=s1.toks) (fun _ _ q=>ag _ q) (ay _) (o:=Lx s1.heap.objs.size d) ⟨aw _ rfl,⟨_,aw _ rfl⟩,fun h1 h2 e k=>k _ e⟩,rfl,q _ (I1.dO.fresh (ay _))⟩
def Lo(x:gP×Int):D:= .tup [lV x.1, .int x.2]
theorem De(n:Nat)(r:List Int):D.bare (n+1) (zO r):=fun d hd=>by
 obtain⟨i,_,rfl⟩:=a9.mp hd
 cases n <;> exact cN
theorem kr(n:Nat)(rs:gP):D.bare (n+2) (lV rs):=fun d hd=>by
 obtain⟨r,_,rfl⟩:=a9.mp hd
 exact De n r
theorem Hy(n:Nat)(x:gP×Int):D.bare (n+3+1) (Lo x):=fun d hd=>by
 rcases aK.mp hd with rfl | hd
 ·exact kr (n+1) x.1
 ·rcases aJ.mp hd with rfl
  exact cN
open Classical in
noncomputable def Hq (H:Hp) (l:Addr) (ys:List V) (ps:List (Addr×Addr×Int)):Hp:=fun b=>if b=l then some (.lst ys)else if h: ∃p∈ps,p.1=b then some (.tup [.ref h.choose.2.1, .int h.choose.2.2])else H b
theorem ui(hh:X.A.handled=none)(hu:X.A.units+8 < cLine)(nd:(kv.map (·.1)).Nodup)(lu:kv.length<=sizeLine):gK X (.builtin "sorted") (fun xs H Q=> ∃v d M,xs= [.ref v]/\H v=some (Lx v d)/\Dn X.K M H (p9 kv) (.ref d)/\ ∀l ys H',H l=none->bJ H H'->H' l=some (.lst ys)->cA X.K M H' ((rH p0 kv).map Lo) ys->Q (.ref l) H'):=by
 intro pins s σ H xs us Q I r ⟨v,d,M,e,hv,dn,k⟩
 subst e
 obtain⟨u,rfl,rx⟩:=vals1 r
 cases rx
 obtain⟨a,bs,ea,h1,h2,h3,h4⟩:=dn
 cases ea
 rw [ae]at h2
 obtain⟨hv1,_⟩:=(show fC X.prog X.w H s.heap v (Lx v d)from I.dO v _ hv)
 obtain⟨⟨no,o,es,ep,g1,g2,g3,g4⟩,_⟩:=(show fC X.prog X.w H s.heap d (ke d _)from I.dO d _ h1)
 obtain⟨zs,a1,a2,a3⟩:=rq (X:=X) h2 g4
 have hes:es.size=kv.length:=by rw [<-aj,a1,ae,a2]
 have ent: ∀j (hj:j < es.size), ∃t,es[j].key= .ref (bs[j]'(by omega))/\es[j].val= .int (kv[j]'(by omega)).2 t:=fun j hj=>by
  obtain⟨t,e⟩:=a3 j (by omega) (by omega) (by omega)
  have q:es[j]=wI (n9 X.prog X.w) (zs[j]'(by omega)):=by
   have:es.toList[j]'(by rw [aj]; exact hj)=(zs.map (wI (n9 X.prog X.w)))[j]'(by rw [ae]; omega):=by simp only [a1]
   rw [aS]at this
   simpa using this
  rw [q,e]
  exact⟨t,rfl,rfl⟩
 have dnk: ∀j (hj:j < kv.length),Dn X.K M H (lV kv[j].1) (.ref (bs[j]'(by omega))):=fun j hj=>h4.refs (j:=j) (by rw [ax,ai hj]; rfl) (ai _)
 have ndk:kv.Nodup:=by
  refine List.Pairwise.imp ?_ (jh.mp nd)
  intro a b h z
  exact h (by rw [z])
 refine wy (ks:=kv) hh hu hv1 ⟨o,g1,g2,g3⟩ (by rw [hes]; exact lu) hes.symm (fun j hj=> ?_) ndk fun h' D cs out c hD hcl hnew hc so hg hk=> ?_
 ·obtain⟨t,e1,e2⟩:=ent j hj
  obtain⟨b,e,_,t2⟩:=rF I (dnk j (by omega)) (u:= .ref (bs[j]'(by omega))) rfl
  cases e
  exact⟨_,t,e1,e2,t2⟩
 ·obtain⟨qs,p1,p2',p3'⟩:=so
  have ez:(cs.map ak).zip kv=(cs.zip kv).map fun x=>(ak x.1,x.2):=by
   rw [List.zip_map_left]
   rfl
  rw [ez]at p1
  obtain⟨l,l1,l2⟩:=nJ p1
  subst l2
  have e2:(cs.zip kv).map (·.2)=kv:=mF (by omega)
  have ksrt:l.map (·.2)=rH p0 kv:=by
   refine u0 KC ?_ ?_ ndk
   ·rw [jh]at p3' ⊢
    exact p3'
   ·have:=l1.map (fun x:Addr×(gP×Int)=>x.2)
    rw [e2]at this
    exact this
  rw [dF]at p2'
  have len:l.length=kv.length:=by rw [l1.length_eq,b9]; omega
  let ps:List (Addr×Addr×Int):=cs.zip (bs.zip (kv.map (·.2)))
  have hps: ∀p∈ps, ∃j, ∃hj:j < kv.length,p=(cs[j]'(by omega),bs[j]'(by omega),kv[j].2):=fun p hp=>by
   obtain⟨j,hj,rfl⟩:=aN.mp hp
   have hj':j < kv.length:=by simp only [ps,b9,ae]at hj; omega
   refine⟨j,hj', ?_⟩
   simp [ps]
  have pin: ∀j (hj:j < kv.length),(cs[j]'(by omega),bs[j]'(by omega),kv[j].2)∈ps:=fun j hj=>by
   have hl:j < ps.length:=by simp only [ps,b9,ae]; omega
   have:ps[j]=(cs[j]'(by omega),bs[j]'(by omega),kv[j].2):=by simp [ps]
   rw [<-this]
   exact aR hl
  have hobj: ∀j (hj:j < kv.length), ∃t,h'.get? (cs[j]'(by omega))=some {cls:= .type "tuple",data:= .seq #[.ref (bs[j]'(by omega)), .int kv[j].2 t]}:=fun j hj=>by
   obtain⟨hj2,e⟩:=hc j (cs[j]'(by omega)) (ai _)
   obtain⟨t,q1,q2⟩:=ent j hj2
   refine⟨t, ?_⟩
   rw [e]
   unfold fJ
   rw [q1,q2]
  have hDc: ∀j (hj:j < kv.length),cs[j]'(by omega)≠D:=fun j hj z=>by
   obtain⟨t,e⟩:=hobj j hj
   rw [z,hg]at e
   exact absurd (show cq "list"=cq "tuple" from congrArg Obj.cls (aC e)) (by decide)
  let ys:List V:=l.map fun x=>V.ref x.1
  have hat: ∀j (hj:j < kv.length),Hq H D ys ps (cs[j]'(by omega))=some (.tup [.ref (bs[j]'(by omega)), .int kv[j].2]):=fun j hj=>by
   have hx: ∃p∈ps,p.1=cs[j]'(by omega):=⟨_,pin j hj,rfl⟩
   unfold Hq
   rw [if_neg (hDc j hj),dif_pos hx]
   obtain⟨m1,m2⟩:=hx.choose_spec
   obtain⟨i,hi,ei⟩:=hps _ m1
   rw [ei]at m2 ⊢
   obtain⟨t,q1⟩:=hobj j hj
   obtain⟨t',q2⟩:=hobj i hi
   have m2:cs[i]'(by omega)=cs[j]'(by omega):=m2
   rw [m2,q1]at q2
   simp only [Option.some.injEq,Obj.mk.injEq,Data.seq.injEq,Array.mk.injEq,List.cons.injEq,Value.ref.injEq,Value.int.injEq,and_true,true_and]at q2
   obtain⟨z1,z2,_⟩:=q2
   show some (HO.tup [.ref (bs[i]'(by omega)), .int kv[i].2])=_
   rw [z1,z2]
  have old: ∀b,b < s.heap.objs.size->Hq H D ys ps b=H b:=fun b hb=>by
   unfold Hq
   rw [if_neg (aE (aX hb hD)),dif_neg]
   rintro⟨p,hp,rfl⟩
   obtain⟨j,hj,rfl⟩:=hps p hp
   have:=hnew (cs[j]'(by omega)) (aR _)
   exact absurd hb (Nat.not_lt.mpr this)
  have I':Inv X pins σ (Hq H D ys ps) {s with heap:=h',toks:=s.toks}:=by
   refine E9 I hk old fun b u hb e=> ?_
   by_cases hbD:b=D
   ·subst hbD
    have e:some (HO.lst ys)=some u:=by rw [<-e]; unfold Hq; rw [if_pos rfl]
    cases e
    refine⟨by show(l.map _).length<=_; rw [ae,len]; exact lu,out,c, ?_,hg⟩
    rw [<-p2']
    exact CY fun x _=>rfl
   ·by_cases hx: ∃p∈ps,p.1=b
    ·obtain⟨p,hp,rfl⟩:=hx
     obtain⟨j,hj,rfl⟩:=hps p hp
     rw [hat j hj]at e
     cases e
     obtain⟨t,q⟩:=hobj j hj
     exact⟨jE (by show 2<=_; omega), [.ref (bs[j]'(by omega)), .int kv[j].2 t], .cons rfl (.cons ⟨t,rfl⟩ .nil),_,q,rfl,_,rfl⟩
    ·have:H b=some u:=by
      unfold Hq at e
      rw [if_neg hbD,dif_neg hx]at e
      exact e
     exact absurd (I.dO.lt this) (Nat.not_lt.mpr hb)
  have sm:bJ H (Hq H D ys ps):=fun b o e=>by rw [old b (I.dO.lt e)]; exact e
  refine⟨.ref D,_,I',rfl,k D ys _ (I.dO.fresh hD) sm (by unfold Hq; rw [if_pos rfl]) ?_⟩
  rw [<-ksrt,dF]
  refine cA.mapZ fun x hx=> ?_
  have hx2:=l1.mem_iff.mp hx
  obtain⟨j,hj,rfl⟩:=aN.mp hx2
  rw [b9]at hj
  have hj':j < kv.length:=by omega
  rw [fX]
  refine⟨_,_,rfl, .inl (.inl (hat j hj')), ?_⟩
  exact⟨_,_,rfl,(dnk j hj').same sm,_,_,rfl,rfl,rfl⟩
theorem dP.sortedIt(hh:X.A.handled=none)(hu:X.A.units+8 < cLine)(nd:(kv.map (·.1)).Nodup)(lu:kv.length<=sizeLine)(hg:Gl X "sorted")(hm:X.mg "sorted"=none)(h:av X ρ e (p9 kv))(hbase:jC e "items" X.env (eval e X.env)=eval e X.env:=by rfl)(hline:(p2.endLine==p3.line)=true:=by rfl)
  (he:ar [.Call (.Attribute e "items" p2) [] [] p3] X.env= [(false,eval (.Call (.Attribute e "items" p2) [] [] p3) X.env)]:=by rfl):dP X ρ (.Call (.Name "sorted" p) [.Call (.Attribute e "items" p2) [] [] p3] [] pos) ((rH p0 kv).map Lo):=fun M0 H0 γ α σ H Q R k=>
 (gZ (ui hh hu nd lu) hg hm (by decide +kernel) (dG (Ei g7 hbase hline) gG he) (by decide) (by decide) he).to (h M0 H0 γ α σ H _ R fun v H1 s1 d1=>by
  have d1':=d1
  obtain⟨a,bs,rfl,hd,_⟩:=d1
  refine⟨a,_,rfl,hd,fun v hv=> ?_⟩
  refine⟨v,a,_,rfl,bC,d1'.same (bt hv),fun l ys H2 hl sm hl2 dn=>k l ys _ H2 (s1.trans (bt hv)) hl sm hl2 (cA.map1 (fun d hd v=> ?_) dn)⟩
  obtain⟨x,_,rfl⟩:=a9.mp hd
  exact Dn.bare 9 (Hy 5 x))
end
section
variable {K:Frag}{M M':MP}{H H':Hp}{a b:Addr}{xs:List (Int×Addr×Int)}
theorem Dy{ys:List V}(ha:H a=some (ke a xs))(h:jR K H b ys):jR K (eG H a) b ys:=by
 rcases h with(h | ⟨o,h⟩) | h
 ·exact .inl (.inl (jT (fun z=>by rw [z,ha]at h; cases h) h))
 ·exact .inl (.inr ⟨o,jT (fun z=>by rw [z,ha]at h; cases h) h⟩)
 ·exact .inr h
theorem Dn.hideB(ha:H a=some (ke a xs)): ∀(n:Nat) {d:D} {v:V},D.bare n d->Dn K M H d v->Dn K M' (eG H a) d v:=by
 intro n
 induction n with
 | zero=>intro d v hf h; cases d <;> first | exact h | exact hf.elim
 | succ n ih=>
  intro d v hf h
  cases d with
  | tup ds=>
   obtain⟨c,ys,e,s,r⟩:=h
   exact⟨c,ys,e,Dy ha s,cA.map1 (fun d hd v=>ih (hf d hd)) r⟩
  | ins C ns ds=>
   obtain⟨c,dx,fs,e,s,hn,r⟩:=h
   exact⟨c,dx,fs,e,jT (fun z=>by rw [z,ha]at s; cases s) s,hn,cA.map1 (fun d hd v=>ih (hf d hd)) r⟩
  | non=>exact h
  | bl _=>exact h
  | int _=>exact h
  | str _=>exact h
  | _=>exact hf.elim
theorem Dn.hideL(ha:H a=some (ke a xs)){ds:List D}{v:V}(hb: ∀d∈ds,D.bare 9 d)(h:Dn K M H (.lst ds) v):Dn K M (eG H a) (.lst ds) v:=by
 obtain⟨c,ys,e,s,r⟩:=h
 refine⟨c,ys,e, ?_,cA.map1 (fun d hd v=>Dn.hideB ha 9 (hb d hd)) r⟩
 rcases s with⟨s | ⟨o,s⟩,m⟩ | s
 ·exact .inl ⟨.inl (jT (fun z=>by rw [z,ha]at s; cases s) s),m⟩
 ·exact .inl ⟨.inr ⟨o,jT (fun z=>by rw [z,ha]at s; cases s) s⟩,m⟩
 ·exact .inr s
theorem xG{l:Addr}{o:HO}(h:l≠a):eG (upd H l o) a=upd (eG H a) l o:=by
 funext b
 unfold eG upd
 by_cases h1:b=a
 ·rw [if_pos h1]
  by_cases h2:b=l
  ·exact absurd (h2.symm.trans h1) h
  ·rw [if_neg h2]; exact(if_pos h1).symm
 ·rw [if_neg h1]
  by_cases h2:b=l
  ·rw [if_pos h2,if_pos h2]
  ·rw [if_neg h2,if_neg h2]; exact(if_neg h1).symm
theorem pR{o:HO}:eG (upd H a o) a=eG H a:=by
 funext b
 unfold eG upd
 by_cases h1:b=a
 ·rw [if_pos h1,if_pos h1]
 ·rw [if_neg h1,if_neg h1,if_neg h1]
end
abbrev kD(kv:og):List D:=kv.map fun x=>lV x.1
structure c_(X:Cx)(M0:MP)(H0:Hp)(γ:List (D×V))(α:Nat->Addr)(ρ:eT)(σ:St)(H:Hp)(i:Nat)(a:Addr)(kv:og):Prop where
 r:Rep X.K M0 H0 γ α ρ σ (eG H a)
 un:ρ[i]? =some .un
 at_:σ[i]? =some (some (.ref a))
 nd:(kv.map (·.1)).Nodup
 ex: ∃bs:List Addr,bs.length=kv.length/\H a=some (ke a (pJ (kD kv) bs (kv.map (·.2))))/\cA X.K (MM M0 ρ α) (eG H a) (kD kv) (bs.map V.ref)
section
variable {X:Cx}{ρ:eT}{M0:MP}{H0 H H':Hp}{γ:List (D×V)}{α:Nat->Addr}{σ:St}{En:Ends}{sts s1 s2 body:List Stmt}{e c:Expr}{d:D}{ds:List D}{pos pos' p p1 p2 p3:Pos}{i j t:Nat}{x:Str}{a:Addr}{kv:og}
theorem c_.lt(B:c_ X M0 H0 γ α ρ σ H i a kv):i < ρ.length:=(aD.mp B.un).1
theorem c_.next(B:c_ X M0 H0 γ α ρ σ H i a kv)(s:bJ H H'):c_ X M0 H0 γ α ρ σ H' i a kv:=by
 obtain⟨bs,h1,h2,h3⟩:=B.ex
 exact⟨B.r.next (nC s),B.un,B.at_,B.nd,bs,h1,s _ _ h2,h3.same (nC s)⟩
theorem c_.view(B:c_ X M0 H0 γ α ρ σ H i a kv):Rep X.K M0 H0 γ α (ρ.set i (.im (p9 kv))) σ H:=by
 obtain⟨bs,h1,h2,h3⟩:=B.ex
 exact(B.r.next e_).view B.lt B.at_ ⟨a,bs,rfl,h2,by rw [h1,ae],by rw [ae,ae],h3.same e_⟩
theorem c_.obj(B:c_ X M0 H0 γ α ρ σ H i a kv): ∃xs,H a=some (ke a xs):=let⟨_,_,h,_⟩:=B.ex; ⟨_,h⟩
theorem c_.unghost{q:D×V}(B:c_ X M0 H0 (q::γ) α ρ σ H i a kv):c_ X M0 H0 γ α ρ σ H i a kv:=⟨B.r.unghost,B.un,B.at_,B.nd,B.ex⟩
theorem c_.put_im(B:c_ X M0 H0 γ α ρ σ H i a kv)(hj:j < ρ.length)(hji:j≠i){v:V}(h:Dn X.K (MM M0 ρ α) (eG H a) d v):c_ X M0 H0 γ α (ρ.set j (.im d)) (σ.set j (some v)) H i a kv:=by
 obtain⟨bs,h1,h2,h3⟩:=B.ex
 exact⟨B.r.set_im hj h,by rw [dY hji.symm]; exact B.un,by rw [dY hji.symm]; exact B.at_,B.nd,bs,h1,h2,h3.less fun b z=>k8 (fun _ q=>by cases q) z⟩
theorem c_.set(B:c_ X M0 H0 γ α ρ σ H i a kv)(hN:X.N.Nodup)(hj:X.N[j]? =some x)(hx:Loc X.env.scope x)(hl:j < ρ.length)(hji:j≠i)(h:av X (ρ.set i (.im (p9 kv))) e d)(hb:D.bare 9 d)
  (k: ∀v H',c_ X M0 H0 γ α (ρ.set j (.im d)) (σ.set j (some v)) H' i a kv->nj X sts En (σ.set j (some v)) H')
  (hs:cQ e (some (.Name x pos')) pos.line X.env=pure false:=by rfl)(hf:X.fn x=true\/X.env.scope.names.lookup x=some .local:=by first | exact .inl rfl | exact .inr rfl | assumption):nj X (.Assign [.Name x pos'] e pos::sts) En σ H:=
 (dq sN fK).to ((qd hN hj hx g7 hs hf).to (h M0 H0 γ α σ H _ B.view fun v H1 s1 dn=>by
  have D1:=B.next s1
  obtain⟨xs,ho⟩:=D1.obj
  exact k v H1 (D1.put_im hl hji (Dn.hideB ho 9 hb dn))))
theorem c_.ite{b:Bool}(B:c_ X M0 H0 γ α ρ σ H i a kv)(h:cG X (ρ.set i (.im (p9 kv))) c b)(k1:b=true-> ∀H',c_ X M0 H0 γ α ρ σ H' i a kv->nj X s1 En σ H')(k2:b=false-> ∀H',c_ X M0 H0 γ α ρ σ H' i a kv->nj X s2 En σ H'):tS X (.If c s1 s2 pos) En σ H:=
 (xN CB fK fK).to (h M0 H0 γ α σ H _ B.view fun H1 s1=>by
  cases e:b with
  | true=>exact sS (k1 e H1 (B.next s1))
  | false=>exact qE (k2 e H1 (B.next s1)))
theorem c_.append(B:c_ X M0 H0 γ α ρ σ H i a kv)(hj:X.N[j]? =some x)(hv:yy X.env.scope x)(hji:j≠i)(hρ:ρ[j]? =some (.mu ds))(hlen:ds.length < 1000000)(h:av X (ρ.set i (.im (p9 kv))) e d)(hb:D.bare 9 d)
  (k: ∀H',c_ X M0 H0 γ α (ρ.set j (.mu (ds ++ [d]))) σ H' i a kv->En.nx σ H')(mc:Kg X (.Name x p1) "append" e p2 p3)(hd:(x==("__debug__":Str))=false:=by decide)(hcd:(x==("__classdict__":Str))=false:=by decide)
  (hsw:cQ (.Call (.Attribute (.Name x p1) "append" p2) [e] [] p3) none pos.line X.env=pure false:=by rfl):tS X (.Expr (.Call (.Attribute (.Name x p1) "append" p2) [e] [] p3) pos) En σ H:=by
 obtain⟨a1,a2,xs,a3,a4⟩:=B.r.mu j ds hρ
 have hla:α j≠a:=fun z=>by rw [z,pO]at a3; cases a3
 refine K_ hj hv B.view a2 (e_ _ _ a3) (by rw [a4.len]; exact hlen) h (fun H1 v s1 dn=>k _ ?_) mc hd hcd hsw
 have D1:=B.next s1
 obtain⟨ys,ho⟩:=D1.obj
 obtain⟨_,_,zs,b3,b4⟩:=D1.r.mu j ds hρ
 have e3:zs=xs:=by
  have h1:=e_ _ _ b3
  have h2:=s1 _ _ (e_ _ _ a3)
  rw [h1]at h2
  cases h2
  rfl
 subst e3
 have dn':Dn X.K (MM M0 ρ α) (eG H1 a) d v:=Dn.hideB ho 9 hb dn
 obtain⟨bs,q1,q2,q3⟩:=D1.ex
 have R:=D1.r.upd_mu hρ (b4.app (cA.one dn'))
 have kp:oG (MM M0 ρ α) (eG H1 a) (upd (eG H1 a) (α j) (.lst (zs ++ [v]))):=fun b o e n=>by
  by_cases hb:b=α j
  ·subst hb
   rw [b3]at e
   cases e
   exact absurd (.inr ⟨j,ds,hρ,rfl⟩) (n _ rfl)
  ·rw [ck hb]; exact e
 refine⟨by rw [xG hla]; exact R,by rw [dY hji.symm]; exact D1.un,D1.at_,D1.nd,bs,q1,by rw [ck hla.symm]; exact q2, ?_⟩
 rw [xG hla]
 refine(q3.keep kp).less fun b z=> ?_
 rcases z with z | ⟨m,es,e,z⟩
 ·exact .inl z
 ·rcases get_set e with⟨rfl,q⟩ | ⟨_,q⟩
  ·exact .inr ⟨m,ds,hρ,z⟩
  ·exact .inr ⟨m,es,q,z⟩
theorem c_.for(I:Nat->eT->og->Prop)(hp:tU (model X.prog X.w) X.A X.env X.xe)(hc:X.calm=true)(hN:X.N.Nodup)(ht:X.N[t]? =some x)(hx:Loc X.env.scope x)(hti:t≠i)(B:c_ X M0 H0 γ α ρ σ H i a kv)(hs:av X (ρ.set i (.im (p9 kv))) e (.lst ds))(hb: ∀d∈ds,D.bare 9 d)(h0:I 0 ρ kv)(hlt: ∀n ρ kv,I n ρ kv->t < ρ.length)
  (turn: ∀(γ':List (D×V)) (n:Nat) (d:D) (α:Nat->Addr) (ρ:eT) (σ:St) (H:Hp) (kv:og),ds[n]? =some d->I n ρ kv->c_ X M0 H0 γ' α (ρ.set t (.im d)) σ H i a kv->nj X body {En with nx:=fun σ H=> ∃α ρ kv,c_ X M0 H0 γ' α ρ σ H i a kv/\I (n+1) ρ kv,ct:=fun σ H=> ∃α ρ kv,c_ X M0 H0 γ' α ρ σ H i a kv/\I (n+1) ρ kv,bk:=En.nx} σ H)
  (done: ∀α ρ σ H kv,I ds.length ρ kv->c_ X M0 H0 γ α ρ σ H i a kv->En.nx σ H)(hf: ∀x,i_ e X.env x=pure x:=by intro _; rfl)(hfn:X.fn x=true\/X.env.scope.names.lookup x=some .local:=by first | exact .inl rfl | exact .inr rfl | assumption):tS X (.For (.Name x p) e body [] pos) En σ H:=by
 refine(Ed hp hc (AB g7) M1 fK hf).to (hs M0 H0 γ α σ H _ B.view fun v H1 s1 dn=> ?_)
 have D1:=B.next s1
 obtain⟨ys,ho⟩:=D1.obj
 have dn':Dn X.K (MM M0 ρ α) (eG H1 a) (.lst ds) v:=(Dn.hideL ho hb dn).less fun b z=>by
  rcases z with z | ⟨m,es,e,z⟩
  ·exact .inl z
  ·refine .inr ⟨m,es, ?_,z⟩
   rw [dY (fun q=>by rw [q,B.un]at e; cases e)]
   exact e
 obtain⟨l,xs,rfl,sq,dd⟩:=id dn'
 refine⟨l,rfl,⟨xs,e_.seq sq.l⟩,fun n m σ H=>m=ds.length - n/\n<=ds.length/\ ∃α ρ kv,c_ X M0 H0 ((.lst ds, .ref l)::γ) α ρ σ H i a kv/\I n ρ kv,⟨ds.length,by simp,bQ _,α,ρ,kv,⟨D1.r.ghost dn',D1.un,D1.at_,D1.nd,D1.ex⟩,h0⟩, ?_⟩
 rintro n m σ2 H2 ⟨rfl,hn,α2,ρ2,kv2,D2,i2⟩
 obtain⟨l',xs',el,sq',dn2⟩:=D2.r.gh _ bT
 cases el
 by_cases hlt':n < ds.length
 ·refine .inr ⟨⟨xs',xs'[n]'(by rw [dn2.len]; exact hlt'),e_.seq sq'.l,ai _⟩,fun σ' H'=> ∃α ρ kv,c_ X M0 H0 ((.lst ds, .ref l)::γ) α ρ σ' H' i a kv/\I (n+1) ρ kv,
   fun σ' H' ⟨α',ρ',kv',D',i'⟩=>⟨ds.length - (n+1),by omega,rfl,hlt',α',ρ',kv',D',i'⟩,fun y H' hy=> ?_⟩
  obtain⟨e,hy⟩:=hy
  subst e
  obtain⟨d,hd',dd⟩:=dn2.getV (hy xs' (e_.seq sq'.l))
  refine(rf hN ht hx hfn).to ?_
  exact turn _ n d α2 ρ2 _ _ kv2 hd' i2 (D2.put_im (hlt n ρ2 kv2 i2) hti dd)
 ·have e:n=ds.length:=by omega
  subst e
  exact .inl ⟨⟨xs',e_.seq sq'.l,by rw [dn2.len]; exact ay _⟩,done α2 ρ2 σ2 H2 kv2 i2 D2.unghost⟩
theorem c_.while(I:eT->og->Prop)(μ:eT->og->Nat)(hp:tU (model X.prog X.w) X.A X.env X.xe)(B:c_ X M0 H0 γ α ρ σ H i a kv)(h0:I ρ kv)
  (turn: ∀(α:Nat->Addr) (ρ:eT) (σ:St) (kv:og),I ρ kv-> ∃b,cG X (ρ.set i (.im (p9 kv))) c b/\(b=true-> ∀H,c_ X M0 H0 γ α ρ σ H i a kv->nj X body {En with nx:=fun σ H=> ∃α ρ' kv',c_ X M0 H0 γ α ρ' σ H i a kv'/\I ρ' kv'/\μ ρ' kv' < μ ρ kv,ct:=fun σ H=> ∃α ρ' kv',c_ X M0 H0 γ α ρ' σ H i a kv'/\I ρ' kv'/\μ ρ' kv' < μ ρ kv,bk:=En.nx} σ H)/\(b=false-> ∀H,c_ X M0 H0 γ α ρ σ H i a kv->En.nx σ H)):tS X (.While c body [] pos) En σ H:=by
 refine(xb hp CB fK).to ⟨fun m σ H=> ∃α ρ kv,c_ X M0 H0 γ α ρ σ H i a kv/\I ρ kv/\μ ρ kv=m,⟨μ ρ kv,α,ρ,kv,B,h0,rfl⟩, ?_⟩
 rintro m σ2 H2 ⟨α2,ρ2,kv2,D2,i2,rfl⟩
 obtain⟨b,h1,h2,h3⟩:=turn α2 ρ2 σ2 kv2 i2
 refine h1 M0 H0 γ α2 σ2 H2 _ D2.view fun H3 s=> ?_
 cases e:b with
 | true=>exact sS ⟨fun σ H=> ∃α ρ' kv',c_ X M0 H0 γ α ρ' σ H i a kv'/\I ρ' kv'/\μ ρ' kv' < μ ρ2 kv2,fun σ' H' ⟨α',ρ',kv',D',i',l'⟩=>⟨_,l',α',ρ',kv',D',i',rfl⟩,h2 e H3 (D2.next s)⟩
 | false=>exact qE (h3 e H3 (D2.next s))
end
theorem ya: ∀{xs:List (Int×Addr×Int)} {es:List dR} {x:Int×Addr×Int} {e:dR},ng xs es->(∃t,e=⟨x.1, .ref x.2.1, .int x.2.2 t⟩)->ng (xs ++ [x]) (es ++ [e])
 | [], [],_,_,_,h=>⟨h,trivial⟩
 | [],_::_,_,_,h,_=>h.elim
 | _::_, [],_,_,h,_=>h.elim
 | _::_,_::_,_,_,h,q=>⟨h.1,ya h.2 q⟩
theorem rJ: ∀ks:List D,(i7 ks).length=ks.length
 | []=>rfl
 | k::ks=>by show(i7 ks).length+1=_; rw [rJ ks]; rfl
theorem sY: ∀(a b:List D),i7 (a ++ b)=i7 a ++ i7 b
 | [],b=>rfl
 | k::a,b=>by rw [mD]; show pb k::i7 (a ++ b)=_; rw [sY a b]; rfl
theorem Ce{ks:List D}{bs:List Addr}{ns:List Int}{k:D}{b:Addr}{n:Int}(h1:bs.length=ks.length)(h2:ns.length=ks.length):pJ (ks ++ [k]) (bs ++ [b]) (ns ++ [n])=pJ ks bs ns ++ [(pb k,b,n)]:=by
 unfold pJ
 rw [sY,List.zip_append (by omega),List.zip_append (by rw [rJ,b9]; omega)]
 rfl
section
variable {X:Cx}{ρ:eT}{M0:MP}{H0 H H':Hp}{γ:List (D×V)}{α:Nat->Addr}{σ:St}{En:Ends}{sts:List Stmt}{k v e o i':Expr}{tk tv td:TE}{d:D}{pos pos' p p1 p2 p3:Pos}{i j:Nat}{x y:Str}{a:Addr}{kv:og}{rs:gP}{n:Int}
theorem E8(hu:X.A.units+8 < cLine)(hk:PE X k tk)(hv:PE X v tv):PE X (.Dict [some k] [v] pos) (fun σ H Q=> ∀a,H a=none->tk σ (upd H a (ke a [])) fun x H1=>tv σ H1 fun y H2=> ∃M rs n b,x= .ref b/\y= .int n/\Dn X.K M H2 (lV rs) (.ref b)/\H2 a=some (ke a [])/\Q (.ref a) (upd H2 a (ke a [(pb (lV rs),b,n)]))):=by
 intro pins s σ H Q I h
 have hn:=I.dO.fresh (ay s.heap.objs.size)
 have big:iR < s.heap.objs.size:=by
  have h:bM < s.heap.objs.size:=(I.mod.glob.keeps I.bk).lt
  exact Nat.lt_trans (by decide) h
 have no:(s.heap.objs.size==iR)=false:=beq_eq_false_iff_ne.mpr (qN (aE big))
 have I1:=I.laid (a:=s.heap.objs.size) (o:=ke s.heap.objs.size []) (h':=s.heap.push {cls:= .type "dict",data:= .dict #[]}) (t':=s.toks) (fun _ _ q=>ag _ q) (ay _)
  ⟨⟨no,_, #[],0,aw _ rfl,⟨rfl,rfl,rfl⟩,rfl,trivial⟩,⟨_,aw _ rfl⟩,fun h1 h2 ⟨q1,o,es,ep,q2,q3⟩ kk=>⟨q1,o,es,ep,kk _ q2,q3⟩⟩
 refine C1 (knd:=n9 X.prog X.w) (by show X.A.units+2 < cLine; omega) (eN (hk pins _ σ _ _ I1 (h _ hn)) fun kv' s1 ⟨x,H1,J1,r1,q1⟩=>eN (hv pins s1 σ H1 _ J1 q1) fun vv s2 ⟨y,H2,J2,r2,M,rs,n,b,ex,ey,dn,ho,q⟩=> ?_)
 subst ex ey
 obtain⟨t,rfl⟩:=(show ∃t,vv=gD n t from r2)
 obtain⟨b',e1,e2,t2⟩:=rF J2 dn r1
 cases e2
 obtain⟨⟨_,ob,es,ep,g1,g2,g3,g4⟩,_⟩:=(show fC X.prog X.w H2 s2.heap s.heap.objs.size (ke s.heap.objs.size [])from J2.dO _ _ ho)
 have hes:es.toList= []:=by
  cases h:es.toList with
  | nil=>rfl
  | cons e r=>rw [h]at g4; exact g4.elim
 refine⟨b,rs,e1,t2,⟨ob,es,ep,g1,g2,g3,hes,fun _ hx=>absurd hx dj,oY⟩,fun h' dd sb=>⟨.ref s.heap.objs.size,_, ?_,rfl,q⟩⟩
 obtain⟨o2,es2,ep2,f1,f2,f3,f4,_,_⟩:=dd
 refine J2.write (x:=s.heap.objs.size) (e:=s.heap.objs.size) (by rw [ho]; exact cN) (.inl rfl) (fun b q hb z=>(sb.2 b hb).trans z) ⟨_,f1⟩ ⟨⟨no,o2,es2,ep2,f1,f2,f3, ?_⟩,⟨_,f1⟩,fun h1 h2 ⟨q1,o,es,ep,q2,q3⟩ kk=>⟨q1,o,es,ep,kk _ q2,q3⟩⟩
 rw [f4]
 refine⟨⟨t, ?_⟩,trivial⟩
 show(⟨uN X.prog X.w rs,_,_⟩:dR)=_
 rw [vG X.prog X.w]
theorem c_.start(hu:X.A.units+8 < cLine)(R:Rep X.K M0 H0 γ α ρ σ H)(hN:X.N.Nodup)(hj:X.N[i]? =some x)(hx:Loc X.env.scope x)(hl:i < ρ.length)(hk:av X ρ k (lV rs))(hv:av X ρ v (.int n))
  (kk: ∀a H',c_ X M0 H0 γ α (ρ.set i .un) (σ.set i (some (.ref a))) H' i a [(rs,n)]->nj X sts En (σ.set i (some (.ref a))) H')
  (hs:cQ (.Dict [some k] [v] p) (some (.Name x pos')) pos.line X.env=pure false:=by rfl)(hf:X.fn x=true\/X.env.scope.names.lookup x=some .local:=by first | exact .inl rfl | exact .inr rfl | assumption):nj X (.Assign [.Name x pos'] (.Dict [some k] [v] p) pos::sts) En σ H:=by
 refine(dq sN fK).to ((qd hN hj hx (E8 hu g7 g7) hs hf).to fun a ha=>hk M0 H0 γ α σ _ _ (R.next (bt ha)) fun u H1 s1 d1=>hv M0 H0 γ α σ H1 _ ((R.next (bt ha)).next s1) fun w H2 s2 d2=> ?_)
 cases (show w= .int n from d2)
 obtain⟨b,ys,rfl,sq,dd⟩:=id d1
 have ho:H2 a=some (ke a []):=s2 _ _ (s1 _ _ bC)
 refine⟨_,rs,n,b,rfl,rfl,d1.same s2,ho,kk a _ ?_⟩
 have sm:bJ H (eG (upd H2 a (ke a [(pb (lV rs),b,n)])) a):=fun c o e=>by
  rw [pR]
  have hne:c≠a:=fun z=>by rw [z,ha]at e; cases e
  exact jT hne (s2 _ _ (s1 _ _ ((bt ha) _ _ e)))
 have dk:Dn X.K (MM M0 ρ α) (eG (upd H2 a (ke a [(pb (lV rs),b,n)])) a) (lV rs) (.ref b):=by
  rw [pR]
  exact Dn.hideB ho 9 (kr 7 rs) (d1.same s2)
 refine⟨(R.next sm).forget,rk hl,rk (by rw [R.len]; exact hl),by simp, [b],rfl, ?_, ?_⟩
 ·rw [bC]
  rfl
 ·exact⟨_,_,rfl,dk.less fun c z=>k8 (fun _ q=>by cases q) z,rfl⟩
theorem c_.put(hu:X.A.units+8 < cLine)(B:c_ X M0 H0 γ α ρ σ H i a kv)(hi:X.N[i]? =some x)(hvx:yy X.env.scope x)(hk:av X (ρ.set i (.im (p9 kv))) k (lV rs))(he:av X (ρ.set i (.im (p9 kv))) e (.int n))(hnew:rs∉kv.map (·.1))(lu:kv.length<=sizeLine)
  (kk: ∀H',c_ X M0 H0 γ α ρ σ H' i a (kv ++ [(rs,n)])->En.nx σ H')(hs:cQ e (some (.Subscript (.Name x p1) k pos')) pos.line X.env=pure false:=by rfl)(hd:(x==("__debug__":Str))=false:=by decide)(hcd:(x==("__classdict__":Str))=false:=by decide):tS X (.Assign [.Subscript (.Name x p1) k pos'] e pos) En σ H:=by
 intro pins s I
 refine wpAny_Assign_Subscript (eN (he M0 H0 γ α σ H (fun v H1=>bJ H H1/\v= .int n) B.view (fun v H1 s1 d1=>⟨s1,d1⟩) pins s I) fun r st1 ⟨v,H1,I1,rv,s1,ev⟩=> ?_) hs
 subst ev
 obtain⟨t,rfl⟩:=(show ∃t,r=gD n t from rv)
 have B1:=B.next s1
 refine eN ((lU hi hvx hd hcd) pins st1 σ H1 (fun u H2=>u= .ref a/\H2=H1) I1 ⟨_,B1.at_,rfl,rfl⟩) fun u st2 ⟨z,H2,I2,rz,ez,eH⟩=> ?_
 subst ez eH
 obtain rfl:u=ak a:=rz
 refine eN (hk M0 H0 γ α σ H2 (fun w H3=>bJ H2 H3/\Dn X.K (MM M0 (ρ.set i (.im (p9 kv))) α) H3 (lV rs) w) B1.view (fun w H3 s3 d3=>⟨s3,d3⟩) pins st2 I2) fun w st3 ⟨y,H3,I3,ry,s3,d3⟩=> ?_
 have B2:=B1.next s3
 obtain⟨bs,q1,q2,q3⟩:=B2.ex
 obtain⟨xs,dc⟩:=IF I3 B2.nd q2 q1 (q3.same e_)
 obtain⟨b,rfl,rfl,t2⟩:=rF I3 d3 ry
 have hl:=dc.len
 refine wpAny_setItem_heap (knd:=n9 X.prog X.w) (hsz:=by omega) (by show X.A.in1.units+2 < cLine; rw [jB]; omega) t2 dc.d fun h' dd sb=> ?_
 obtain⟨⟨no,ob,es,ep,g1,g2,g3,g4⟩,_⟩:=(show fC X.prog X.w H3 st3.heap a (ke a _)from I3.dO a _ q2)
 rw [storedH_new (dc.miss hnew)]at dd
 obtain⟨o2,es2,ep2,f1,f2,f3,f4,_,_⟩:=dd
 obtain⟨o3,es3,ep3,e1,e2,e3,e4,_,_⟩:=dc.d
 rw [g1]at e1
 cases e1
 rw [g3]at e3
 cases e3
 have hents:ng (pJ (kD (kv ++ [(rs,n)])) (bs ++ [b]) ((kv ++ [(rs,n)]).map (·.2))) es2.toList:=by
  have z1:kD (kv ++ [(rs,n)])=kD kv ++ [lV rs]:=by unfold kD; rw [bo]; rfl
  have z2:(kv ++ [(rs,n)]).map (·.2)=kv.map (·.2) ++ [n]:=by rw [bo]; rfl
  rw [z1,z2,Ce (by rw [q1,ae]) (by rw [ae,ae]),f4,bo, <-e4]
  refine ya g4 ⟨t, ?_⟩
  show(⟨uN X.prog X.w rs,_,_⟩:dR)=_
  rw [vG X.prog X.w]
 have I4:Inv X pins σ (upd H3 a (ke a (pJ (kD (kv ++ [(rs,n)])) (bs ++ [b]) ((kv ++ [(rs,n)]).map (·.2))))) {st3 with heap:=h',toks:=st3.toks+(n9 X.prog X.w).draws rs}:=
  I3.write (x:=a) (e:=a) (by rw [q2]; exact cN) (.inl rfl) (fun b q hb z=>(sb.2 b hb).trans z) ⟨_,f1⟩ ⟨⟨no,o2,es2,ep2,f1,f2,f3,hents⟩,⟨_,f1⟩,fun h1 h2 ⟨q1,o,es,ep,q2,q3⟩ kk=>⟨q1,o,es,ep,kk _ q2,q3⟩⟩
 refine⟨σ,_,I4,kk _ ⟨by rw [pR]; exact B2.r,B2.un,B2.at_, ?_,bs ++ [b], ?_,bC, ?_⟩⟩
 ·rw [bo,jd]
  refine⟨B2.nd,by simp,fun u hu w hw=> ?_⟩
  rcases aJ.mp hw with rfl
  rintro rfl
  exact hnew hu
 ·rw [ao,ao,q1]
  rfl
 ·rw [pR]
  have z1:kD (kv ++ [(rs,n)])=kD kv ++ [lV rs]:=by unfold kD; rw [bo]; rfl
  rw [z1,bo]
  exact q3.app (cA.one (Dn.hideB q2 9 (kr 7 rs) d3))
end
section
variable {prog:aq}{w:World}{A:bh}{R:Result->ah->Prop}{s:ah}
theorem zR{elt target iter c:Expr}{scope:Scope}{pos:Pos}{it acc:Value}{env:Env}(I:Nat->ah->Prop)
  (turn: ∀n s,I n s->wpAny (model prog w) A (iS it) (fun r s₁=>match r with
   | none=>R (.ok .next) s₁
   | some v=>wpAny (model prog w) A (nN target it v) (fun _ s₂=>wpAny (model prog w) A (oX target env v) (fun _ s₃=>wpAny (model prog w) A (isTrue c env (eval c env)) (fun b s₃'=>if b=true then wpAny (model prog w) A (eval elt env) (fun y s₄=>
     wpAny (model prog w) A (call (.builtin "list.append") [acc,y]) (fun _ s₅=> ∃m,m < n/\I m s₅) x3 s₄) x3 s₃' else ∃m,m < n/\I m s₃') x3 s₃) x3 s₂) x3 s₁) x3 s)(n:Nat)(h:I n s):
  fu (model prog w) A (.compLoop (.ListComp elt [⟨target,iter, [c],0⟩] scope pos) 0 it acc env) R s:=by
 refine codeAny_loop rfl I (fun n s hI=> ?_) n h
 show wpAny _ A ((compTurn (.ListComp elt [⟨target,iter, [c],0⟩] scope pos) 0 it acc env).onRaise (fun x=>do tZ x env; theTreesLotGoes x)) _ _ s
 refine wpAny_noted ?_
 rw [compTurn_list]
 refine aa (pU (aa (bN (turn n s hI) (fun r s₁ h₁=> ?_) fun _ _ z=>z.elim)))
 cases r with
 | none=>exact af h₁
 | some v=>
  refine aa (bN h₁ (fun _ s₂ h₂=> ?_) fun _ _ z=>z.elim)
  refine aa (bN h₂ (fun _ s₃ h₃=>aa ?_) fun _ _ z=>z.elim)
  rw [cP]
  refine aa (aa (bN h₃ (fun b s₃' h₃'=>af ?_) fun _ _ z=>z.elim))
  dsimp only
  rw [fV]
  refine af ?_
  cases b with
  | true=>
   rw [if_pos rfl]at h₃' ⊢
   exact aa (aa (bN h₃' (fun y s₄ h₄=>aa (bN h₄ (fun _ s₅ h₅=>af (af ⟨rfl,h₅⟩)) fun _ _ z=>z.elim)) fun _ _ z=>z.elim))
  | false=>
   rw [if_neg aA]at h₃' ⊢
   exact af ⟨rfl,h₃'⟩
end
structure KL(K:Frag)(M:MP)(H1:Hp)(ds:List D)(f:D->Bool)(i:Nat)(D0:Addr)(ys:List V)(H:Hp):Prop where
 same:bJ H1 H
 at_:H D0=some (.lst ys)
 dn:cA K (fun a=>M a\/a=D0) H ((ds.take i).filter f) ys
section
variable {X:Cx}{pins:List (Addr×Obj)}{σ:St}{H1:Hp}{s₂:ah}{N':List Str}{js:List Nat}{scope:Scope}{x:Str}{cl:List (Str×Addr)}{px pos:Pos}{elt iter:Expr}{J:It}{fp:List Addr}{it:Addr}{tn:Nat->Heap->Prop}
 {ds cs:List D}{gs:List (D×V)}{M:MP}{E:Value->ah->Prop}{RR:Value->Addr->Result->ah->Prop}
theorem yE{c:Expr}{f:D->Bool}(ok:eE X N' js scope x cl)(hc:X.calm=true)(hnd:N'.Nodup)(I:Inv X pins σ H1 s₂)(T:Turn X.prog X.w X.K (.Name x px) J fp it tn)(st:tn 0 s₂.heap)(hf: ∀b∈fp,jF X pins H1 b)
  (hg: ∀p∈gs,Dn X.K M H1 p.1 p.2)(w:Walk X.K J ds gs)(hsz:ds.length<=1000000)(hcap:C9 X.K M H1 σ js cs)(hM: ∀a,M a->H1 a≠none)
  (htst: ∀(C:Addr) (s₀:ah) (H₀:Hp) (i:Nat) (d:D),ds[i]? =some d->cG (jw X N' scope cl C s₀ H₀ fp pins) (kf d cs) c (f d))
  (helt: ∀(C:Addr) (s₀:ah) (H₀:Hp) (i:Nat) (d:D),ds[i]? =some d->av (jw X N' scope cl C s₀ H₀ fp pins) (kf d cs) elt d)
  (hRR: ∀(D0 C:Addr) (m:Str->Option Value) (s1:ah) (H:Hp) (ys:List V),Inv X pins σ H s1->s1.heap.Ns C m->jF X pins H C->H1 D0=none->bJ H1 H->H D0=some (.lst ys)->cA X.K (fun a=>M a\/a=D0) H (ds.filter f) ys->RR (.ref D0) C (.ok .next) s1):
  wpAny (model X.prog X.w) X.A (newList []) (fun acc s₃=>wpAny (model X.prog X.w) X.A (newFunctionEnv scope X.env.globals cl [] X.env.qual none .none (some X.env)) (fun cenv s₄=>
   fu (model X.prog X.w) X.A (.compStart (.ListComp elt [⟨.Name x px,iter, [c],0⟩] scope pos) 0 (.ref it) acc {cenv with scope:=o8 scope X.env}) (RR acc cenv.locals) s₄) E s₃) E s₂:=by
 refine bb (wpAny_newFunctionEnv ok.cell (by intro y hy; simp at hy) (fun h₁ hns₁ hsb₁=> ?_) ok.kind)
 dsimp only at hns₁ hsb₁ ⊢
 have hD:H1 s₂.heap.objs.size=none:=I.fresh
 have I3:Inv X pins σ (upd H1 s₂.heap.objs.size (.lst [])) {s₂ with heap:=s₂.heap.push {cls:= .type "list",data:= .seq ([]:List Value).toArray}}:=I.lnew (its:= []) (t':=s₂.toks) (ys:= []) .nil (bQ _)
 have obj2: ∀b∈fp, ∃o,s₂.heap.get? b=some o:=fun b hb=>let⟨o,e,_⟩:=T.obj _ _ st b hb; ⟨o,e⟩
 have lt2: ∀b∈fp,b < s₂.heap.objs.size:=fun b hb=>let⟨o,e⟩:=obj2 b hb; au e
 have hf3: ∀b∈fp,jF X pins (upd H1 s₂.heap.objs.size (.lst [])) b:=fun b hb=>⟨by rw [ck (aE (lt2 b hb))]; exact(hf b hb).1,(hf b hb).2⟩
 generalize hH2:s₂.heap.push {cls:= .type "list",data:= .seq ([]:List Value).toArray}=H2 at I3 hns₁ hsb₁ ⊢
 have sz3:H2.objs.size=s₂.heap.objs.size+1:=by rw [<-hH2,cB]
 have lt3: ∀b∈fp,b < H2.objs.size:=fun b hb=>by rw [sz3]; exact cv (lt2 b hb)
 have k1: ∀b o,H2.get? b=some o->h₁.get? b=some o:=fun b o e=>hsb₁.extBut b o (aE (au e)) (ag _ e)
 have k2: ∀b o,s₂.heap.get? b=some o->h₁.get? b=some o:=fun b o e=>k1 b o (by rw [<-hH2]; exact ag _ e)
 have I4:=ok.inv (tk:=s₂.toks+([]:List (Str×Value)).length) I3 hf3 lt3 hns₁ k1
 have st4:tn 0 h₁:=T.keep _ _ _ st fun b hb o e=>k2 b o e
 generalize hX:jw X N' scope cl H2.objs.size {s₂ with heap:=H2} (upd H1 s₂.heap.objs.size (.lst [])) fp pins=X' at I4
 have hfp: ∀(H:Hp),(∀b∈fp,H b=none)-> ∀b∈fp,jF X' [] H b:=fun H hn b hb=>by
  subst hX
  refine⟨hn b hb,aE (lt3 b hb),q_ I3 (hf3 b hb).2.1 (hf3 b hb).2.2.1, .inl hb,fun y c e=>(hf3 b hb).2.2.2.2.1 y c (ok.sub y c e),fun p hp=> ?_⟩
  have z:p∈(X.pn ++ pins) ++ []:=hp
  rw [aZ]at z
  exact(hf3 b hb).2.2.2.2.2 p z
 have out: ∀(H:Hp) (s1:ah) (σ':St),Inv X' [] σ' H s1->Inv X pins σ H s1/\jF X pins H H2.objs.size:=fun H s1 σ' J=>by
  subst hX
  exact ok.out I3 hf3 J
 have elt': ∀(i:Nat) (d:D),ds[i]? =some d->av X' (kf d cs) elt d:=fun i d h1=>by
  subst hX
  exact helt _ _ _ i d h1
 have tst': ∀(i:Nat) (d:D),ds[i]? =some d->cG X' (kf d cs) c (f d):=fun i d h1=>by
  subst hX
  exact htst _ _ _ i d h1
 have env':X'.env=compEnvC scope cl H2.objs.size X.env:=by rw [<-hX]; rfl
 have N0:X'.N=N':=by rw [<-hX]; rfl
 have p1:X'.prog=X.prog:=by rw [<-hX]; rfl
 have p2:X'.w=X.w:=by rw [<-hX]; rfl
 have p3:X'.K=X.K:=by rw [<-hX]; rfl
 have p4:X'.calm=true:=by rw [<-hX]; exact hc
 have p5:X'.A=X.A:=by rw [<-hX]; rfl
 have p6:X'.xe=x3:=by rw [<-hX]; rfl
 clear hX
 obtain⟨r0,er0,hrl,hr⟩:=ok.hN
 have hN0:X'.N[0]? =some x:=by rw [N0,er0]; rfl
 have hLoc:X'.env.scope.names.lookup x=some .local:=by rw [env']; exact lookup_relabel_local ok.own
 have hMD: ∀a,(M a\/a=s₂.heap.objs.size)-> ∀H,bJ H1 H->(∃ys,H s₂.heap.objs.size=some (.lst ys))->H a≠none:=fun a ha H sm hD' z=>by
  rcases ha with ha | rfl
  ·exact hM a ha (sm.free z)
  ·obtain⟨ys,e⟩:=hD'
   rw [z]at e; cases e
 have loop: ∀s₃:ah,s₃={s₂ with heap:=h₁,toks:=s₂.toks+([]:List (Str×Value)).length}->
   fu (model X.prog X.w) X.A (.compLoop (.ListComp elt [⟨.Name x px,iter, [c],0⟩] scope pos) 0 (.ref it) (.ref s₂.heap.objs.size) (compEnvC scope cl H2.objs.size X.env)) (RR (.ref s₂.heap.objs.size) H2.objs.size) s₃:=by
  intro s₃ es3
  refine zR (fun n s'=> ∃(i:Nat) (ys:List V) (H:Hp) (σ':St),n=ds.length - i/\i<=ds.length/\Inv X' [] σ' H s'/\(∃ov,σ'=ov::(JV σ js).tail)/\tn i s'.heap/\(∀b∈fp,H b=none)/\KL X.K M H1 ds f i s₂.heap.objs.size ys H) ?_ ds.length
   ⟨0, [],_,_,rfl,bQ _,by rw [es3]; exact I4,⟨none,rfl⟩,by rw [es3]; exact st4,fun b hb=>(hf3 b hb).1,bt hD,bC,by rw [gU]; exact rfl⟩
  rintro n s' ⟨i,ys,H,σ',rfl,hi,Iv,⟨ov,eσ⟩,sti,fri,ci⟩
  have gsH: ∀p∈gs,Dn X.K (fun a=>M a\/a=s₂.heap.objs.size) H p.1 p.2:=fun p hp=>((hg p hp).re fun a m=>m.elim .inl fun z=> .inr (by rw [z]; exact hD)).same ci.same
  obtain⟨w1,w2⟩:=w _ H gsH
  have item:=T.item X' p1 p2 p3 p4 i [] s' σ' H x3 Iv (hfp H fri) sti
  have done:=T.done X' p1 p2 p3 p4 i [] s' σ' H x3 Iv (hfp H fri) sti
  rw [p5]at item done
  by_cases hlt:i < ds.length
  ·obtain⟨g1,g2⟩:=w1 i ds[i] (ai hlt)
   refine eN (item g1) fun r s4 ⟨u,hr',h4⟩=> ?_
   subst hr'
   refine eN h4 fun _ s5 ⟨y,H5,I5,r5,y5,st5,fr5⟩=> ?_
   obtain⟨sm5,d5⟩:=g2 y H5 y5
   have I5':=I5.pinned (hfp H5 fr5) (T.obj _ _ st5)
   have asg:=rf (X:=X') (pos:=px) (i:=0) (by rw [N0]; exact hnd) hN0 (.inl hLoc) (.inr hLoc) _ s5 σ' H5 y u (fun σ6 H6=>σ6=σ'.set 0 (some y)/\H6=H5) I5' r5 ⟨rfl,rfl⟩
   rw [p1,p2,p5,p6,env']at asg
   refine eN asg fun _ s6 ⟨σ6,H6,I6,e6,e6'⟩=> ?_
   subst e6 e6'
   have ei:ds[i]? =some ds[i]:=ai hlt
   have ev:=elt' i _ ei
   have tv:=tst' i _ ei
   have sm15:bJ H1 H6:=ci.same.trans sm5
   have hD5:H6 s₂.heap.objs.size=some (.lst ys):=sm5 _ _ ci.at_
   have Rp:Rep X'.K (fun a=>M a\/a=s₂.heap.objs.size) H6 [] (fun _=>0) (kf ds[i] cs) (σ'.set 0 (some y)) H6:=by
    refine⟨bJ.refl _,fun a ha=>hMD a ha H6 sm15 ⟨ys,hD5⟩,fun k l fs gs' e1=> ?_,fun k d0 e1=> ?_,fun k fs e1=> ?_,(fun p hp=>by cases hp), ?_⟩
    ·exfalso
     unfold kf at e1
     cases k with
     | zero=>cases aC e1
     | succ k=>
      rw [cu,ax]at e1
      cases z:cs[k]? with
      | none=>rw [z]at e1; cases e1
      | some c=>rw [z]at e1; cases aC e1
    ·have mmM: ∀a,MM (fun a=>M a\/a=s₂.heap.objs.size) (kf ds[i] cs) (fun _=>0) a->(M a\/a=s₂.heap.objs.size):=fun a ha=>by
      rcases ha with ha | ⟨k',fs,e2,_⟩
      ·exact ha
      ·exfalso
       unfold kf at e2
       cases k' with
       | zero=>cases aC e2
       | succ k'=>
        rw [cu,ax]at e2
        cases z:cs[k']? with
        | none=>rw [z]at e2; cases e2
        | some c=>rw [z]at e2; cases aC e2
     subst eσ
     unfold kf at e1
     cases k with
     | zero=>
      have z:Sl.im ds[i]=Sl.im d0:=aC e1
      cases z
      refine⟨y,rfl, ?_⟩
      rw [p3]
      exact d5.less mmM
     | succ k=>
      rw [cu,ax]at e1
      cases z:cs[k]? with
      | none=>rw [z]at e1; cases e1
      | some c=>
       rw [z]at e1
       have z':Sl.im c=Sl.im d0:=aC e1
       have hk:k < js.length:=by rw [hcap.1]; exact(aD.mp z).1
       obtain⟨v,hv,dv⟩:=hcap.2 k js[k] c (ai hk) z
       cases z'
       refine⟨v, ?_, ?_⟩
       ·show(js.map fun j=>(σ[j]?).join)[k]? =some (some v)
        rw [ax,ai hk]
        show some (σ[js[k]]?).join=_
        rw [hv]
        rfl
       ·rw [p3]
        exact(((dv.re fun a m=>m.elim .inl fun q=> .inr (by rw [q]; exact hD)).same sm15)).less mmM
    ·exfalso
     unfold kf at e1
     cases k with
     | zero=>cases aC e1
     | succ k=>
      rw [cu,ax]at e1
      cases z:cs[k]? with
      | none=>rw [z]at e1; cases e1
      | some c=>rw [z]at e1; cases aC e1
    ·subst eσ
     rw [bA]
     show(js.map fun j=>(σ[j]?).join).length+1=(cs.map Sl.im).length+1
     rw [ae,ae,hcap.1]
   have tvw:=tv _ H6 [] (fun _=>0) _ H6 (fun b H'=>b=f ds[i]/\bJ H6 H') Rp (fun H' sm=>⟨rfl,sm⟩) _ s6 I6
   rw [p1,p2,p5,p6,env']at tvw
   refine eN tvw fun b s6' ⟨H6',I6',eb,sm6⟩=> ?_
   subst eb
   cases ef:f ds[i]with
   | false=>
    rw [if_neg aA]
    refine⟨ds.length - (i+1),by omega,i+1,ys,_,_,rfl,hlt,I6'.unpinned,⟨some y,by rw [eσ]; rfl⟩,
     T.keep _ _ _ st5 fun b hb o e=>(I6'.pin (b,o) (aT _ (aT _ (gJ hb e)))).1,fun b hb=> ?_,sm15.trans sm6,sm6 _ _ hD5, ?_⟩
    ·obtain⟨o,e,_⟩:=T.obj _ _ st5 b hb
     exact(I6'.pin (b,o) (aT _ (aT _ (gJ hb e)))).2.1
    ·rw [eD,ei,FY]
     have:(some ds[i]).toList.filter f= []:=by simp [ef]
     rw [this,aZ]
     exact ci.dn.same (sm5.trans sm6)
   | true=>
   rw [if_pos rfl]
   have evw:=ev _ H6 [] (fun _=>0) _ H6' (fun v H'=>bJ H6' H'/\Dn X.K (fun a=>M a\/a=s₂.heap.objs.size) H' ds[i] v) (Rp.next sm6) (fun v H' sm dn=>⟨sm,by
    rw [p3]at dn
    exact dn.less fun a ha=> .inl ha⟩) _ s6' I6'
   rw [p1,p2,p5,p6,env']at evw
   refine eN evw fun yv s7 ⟨v,H7,I7,r7,sm7',dn7⟩=> ?_
   have sm7:bJ H6 H7:=sm6.trans sm7'
   have ap:=nD (X:=X') _ s7 _ H7 (.ref s₂.heap.objs.size) [v] (.ref s₂.heap.objs.size) [yv] (fun _ H8=>H8=upd H7 s₂.heap.objs.size (.lst (ys ++ [v]))) I7 rfl (.cons r7 .nil)
    ⟨_,ys,v,rfl,rfl,sm7 _ _ hD5,by rw [ci.dn.len]; exact iV (bu (List.length_filter_le _ _) (by rw [a8]; exact bu (tX _ _) hsz)) (by decide:(1000000:Nat) < sizeLine),rfl⟩
   rw [p1,p2,p5,p6]at ap
   refine eN ap fun _ s8 ⟨_,H8,I8,_,e8⟩=> ?_
   subst e8
   refine⟨ds.length - (i+1),by omega,i+1,ys ++ [v],_,_,rfl,hlt,I8.unpinned,⟨some y,by rw [eσ]; rfl⟩,
    T.keep _ _ _ st5 fun b hb o e=>(I8.pin (b,o) (aT _ (aT _ (gJ hb e)))).1,fun b hb=> ?_, ?_⟩
   ·obtain⟨o,e,_⟩:=T.obj _ _ st5 b hb
    exact(I8.pin (b,o) (aT _ (aT _ (gJ hb e)))).2.1
   ·refine⟨g9 (sm15.trans sm7) hD,bC, ?_⟩
    have kp:oG (fun a=>M a\/a=s₂.heap.objs.size) H7 (upd H7 s₂.heap.objs.size (.lst (ys ++ [v]))):=fun b o e n=>by
     by_cases hb:b=s₂.heap.objs.size
     ·subst hb
      rw [sm7 _ _ hD5]at e; cases e
      exact absurd (.inr rfl) (n _ rfl)
     ·rw [ck hb]; exact e
    rw [eD,ei,FY]
    have ef2:(some ds[i]).toList.filter f= [ds[i]]:=by simp [ef]
    rw [ef2]
    exact(cA.app (ci.dn.same (sm5.trans sm7)) (cA.one dn7)).keep kp
  ·have e:i=ds.length:=by omega
   subst e
   refine eN (done w2) fun r s4 ⟨hr',I5⟩=> ?_
   subst hr'
   obtain⟨o1,o2⟩:=out H s4 σ' I5
   obtain⟨m,hn,_⟩:=I5.loc
   rw [env']at hn
   refine hRR _ _ m s4 H ys o1 hn o2 hD ci.same ci.at_ ?_
   have:=ci.dn
   rw [dh]at this
   exact this
 exact codeAny_compStart_list (loop _ rfl) (T.self X.A 0 _ _ _ st4 (loop _ rfl))
theorem dP.compI{ρ:eT}{c:Expr}{f:D->Bool}(ok:eE X N' js scope x cl)(hc:X.calm=true)(hnd:N'.Nodup)(hs:ky X ρ (.Name x px) iter ds)(hcs:xB ρ js cs)(hsz:ds.length<=1000000)
  (htst: ∀(C:Addr) (s₀:ah) (H₀:Hp) (fp:List Addr) (pins:List (Addr×Obj)) (i:Nat) (d:D),ds[i]? =some d->cG (jw X N' scope cl C s₀ H₀ fp pins) (kf d cs) c (f d))
  (helt: ∀(C:Addr) (s₀:ah) (H₀:Hp) (fp:List Addr) (pins:List (Addr×Obj)) (i:Nat) (d:D),ds[i]? =some d->av (jw X N' scope cl C s₀ H₀ fp pins) (kf d cs) elt d)
  (hfi: ∀v,i_ iter X.env v=pure v:=by intro _; rfl):dP X ρ (.ListComp elt [⟨.Name x px,iter, [c],0⟩] scope pos) (ds.filter f):=fun M0 H0 γ α σ H Q R k pins s I=>by
 rw [eval_ListComp]
 refine yL (use:=none) rfl hfi ok.Ca ok.kind ok.names ?_
 have h:=hs M0 H0 γ α σ H (fun J H1=> ∃gs,bJ H H1/\(∀p∈gs,Dn X.K (MM M0 ρ α) H1 p.1 p.2)/\Walk X.K J ds gs) R (fun J H1 gs s g w=>⟨gs,s,g,w⟩) pins s I
 refine eN h fun v s1 h1=>eN h1 fun itv s2 ⟨it,fp,tn,J,H1,e,I2,T,st,ff,gs,sm,hg,w⟩=> ?_
 subst e
 refine yE ok hc hnd I2 T st ff hg w hsz (hcs.ok R sm) (iH R sm) (fun C s₀ H₀ i d=>htst C s₀ H₀ fp pins i d) (fun C s₀ H₀ i d=>helt C s₀ H₀ fp pins i d) fun D0 C m s1 H2 ys I1 hn fo hD sm1 ha dn=> ?_
 exact⟨m,hn,fun h' sb=>⟨.ref D0,H2,I1.turned (t':=s1.toks) (fun b o hb e=>sb.extBut b o hb e) fo.1 fo.2.1 fo.2.2.2.1 fo.2.2.2.2.1 fo.2.2.2.2.2,rfl,k D0 ys H1 H2 sm hD sm1 ha dn⟩⟩
end
section
variable {X:Cx}{ρ:eT}{M0:MP}{H0 H H':Hp}{γ:List (D×V)}{α:Nat->Addr}{σ:St}{En:Ends}{sts:List Stmt}{e:Expr}{d:D}{ds:List D}{pos pos':Pos}{i j:Nat}{x:Str}{a:Addr}{kv:og}
theorem c_.setF(B:c_ X M0 H0 γ α ρ σ H i a kv)(hN:X.N.Nodup)(hj:X.N[j]? =some x)(hx:Loc X.env.scope x)(hl:j < ρ.length)(hji:j≠i)(h:dP X (ρ.set i (.im (p9 kv))) e ds)(hb: ∀d∈ds,D.bare 9 d)
  (k: ∀α v H',c_ X M0 H0 γ α (ρ.set j (.mu ds)) (σ.set j (some v)) H' i a kv->nj X sts En (σ.set j (some v)) H')
  (hs:cQ e (some (.Name x pos')) pos.line X.env=pure false:=by rfl)(hf:X.fn x=true\/X.env.scope.names.lookup x=some .local:=by first | exact .inl rfl | exact .inr rfl | assumption):nj X (.Assign [.Name x pos'] e pos::sts) En σ H:=
 (dq sN fK).to ((qd hN hj hx g7 hs hf).to (h M0 H0 γ α σ H _ B.view fun l xs H1 H' s n s' y z=>by
  have D1:=B.next s
  obtain⟨ys,ho⟩:=D1.obj
  have hla:l≠a:=fun q=>by rw [q,ho]at n; cases n
  have ho':=s' _ _ ho
  obtain⟨bs,q1,q2,q3⟩:=D1.ex
  refine k _ _ H' ⟨D1.r.set_mu hl (by unfold eG; rw [if_neg hla]; exact n) (nC s') (jT hla y) (cA.map1 (fun d hd v=>Dn.hideB ho' 9 (hb d hd)) z),by rw [dY hji.symm]; exact D1.un,by rw [dY hji.symm]; exact D1.at_,D1.nd,bs,q1,s' _ _ q2, ?_⟩
  refine cA.map1 (fun d hd v=> ?_) (q3.same (nC s'))
  obtain⟨x,_,rfl⟩:=a9.mp hd
  exact Dn.bare 9 (kr 7 _)))
end
end Z
namespace K
open PySem L2 Z
theorem HF(t:oi):D.bare 9 (tD t):=fun d hd=>by
 have:d= .int t.1\/d= .int t.2.1\/d= .int t.2.2:=by simpa [tD]using hd
 rcases this with rfl | rfl | rfl <;> exact cN
def nb(f:dM)(rs:Rows):List Rows:=(lets f rs).map (mv rs)
def i0(f:dM)(g:Rows):og:=Hg (nb f) 160000 [(g,0)] 0
structure FZ(f:dM)(g rs:Rows):Prop where
 gd:good f rs=true
 of:Of g.flatten g.length rs
theorem wd{f:dM}{rs:Rows}{t:oi}(h:isLet f rs t=true):IC f rs t/\good f (mv rs t)=true:=by
 unfold isLet at h
 rw [bx]at h
 exact⟨mZ.mp h.1,h.2⟩
theorem qj{f:dM}{rs:Rows}{t:oi}(ok:uy f):t∈lets f rs↔isLet f rs t=true:=Ez (by have:=ok.st; omega) (by have:=ok.lf; omega)
theorem sL{f:dM}{rs r:Rows}(ok:uy f):r∈nb f rs↔ ∃t,isLet f rs t=true/\mv rs t=r:=by
 unfold nb
 rw [a9]
 exact⟨fun⟨t,h1,h2⟩=>⟨t,(qj ok).mp h1,h2⟩,fun⟨t,h1,h2⟩=>⟨t,(qj ok).mpr h1,h2⟩⟩
theorem Ey{f:dM}{g rs:Rows}(ok:uy f)(h:FZ f g rs): ∀r∈nb f rs,FZ f g r:=fun r hr=>by
 obtain⟨t,ht,rfl⟩:=(sL ok).mp hr
 obtain⟨hc,g2⟩:=wd ht
 exact⟨g2,(An (gH h.gd) hc).trans h.of.1,(Dg rs t).trans h.of.2⟩
theorem Ao{f:dM}{rs r:Rows}(ok:uy f)(hg:good f rs=true)(h:r∈nb f rs):rs∈nb f r:=by
 obtain⟨t,ht,rfl⟩:=(sL ok).mp h
 obtain⟨b1,b2⟩:=DZ hg ht
 exact(sL ok).mpr ⟨bk t,b1,b2⟩
structure nW(f:dM)(qs:eU)(g:Rows):Prop where
 s:fZ f qs
 gd:good f g=true
 lu:g.flatten.length<=4
theorem nW.B3{f:dM}{qs:eU}{g:Rows}(h:nW f qs g):FZ f g g:=⟨h.gd,dD _,rfl⟩
theorem nW.le{f:dM}{qs:eU}{g:Rows}(h:nW f qs g){kv:og}(nd:(kv.map (·.1)).Nodup)(hi: ∀x∈kv,FZ f g x.1):kv.length<=160000:=
 JG h.lu (by have:=gH h.gd; have:=h.s.ok.st; omega) nd fun x hx=>(hi x hx).of
structure yT(f:dM)(g:Rows):Prop where
 be:BE (nb f) g (i0 f g)
 B3: ∀x∈i0 f g,FZ f g x.1
 len:(i0 f g).length<=160000
theorem nW.fin{f:dM}{qs:eU}{g:Rows}(h:nW f qs g):yT f g:=by
 obtain⟨d,b,hp,hd⟩:=AS (nb:=nb f) (g:=g) (P:=FZ f g) (N:=160000) (fun k hk k'=>Ey h.s.ok hk k') (fun kv nd hi=>h.le nd hi) 160000 [(g,0)] 0 BI.start (fun x hx=>by rw [aJ.mp hx]; exact h.B3) (bQ _) (ay _)
 exact⟨b.fin hd,hp,h.le b.nd hp⟩
structure GR(f:dM)(g:Rows)(kv:og)(d:Nat):Prop where
 b:BI (nb f) g kv d
 B3: ∀x∈kv,FZ f g x.1
 le:d<=kv.length
 end_:Hg (nb f) (160000 - d) kv d=i0 f g
theorem GR.start{f:dM}{qs:eU}{g:Rows}(h:nW f qs g):GR f g [(g,0)] 0:=⟨BI.start,fun x hx=>by rw [aJ.mp hx]; exact h.B3,bQ _,rfl⟩
theorem GR.step{f:dM}{qs:eU}{g:Rows}{kv:og}{d:Nat}(h:nW f qs g)(w:GR f g kv d)(hd:d < kv.length):GR f g (oh (nb f) kv d) (d+1)/\d < 160000:=by
 have l:=h.le w.b.nd w.B3
 have p:=(u7 (nb:=nb f) kv d).length_le
 refine⟨⟨w.b.step hd,uO (P:=FZ f g) (fun k hk k'=>Ey h.s.ok hk k') w.B3,by omega, ?_⟩,by omega⟩
 have e:=w.end_
 rw [show 160000 - d=160000 - (d+1)+1 by omega,Hg,if_pos hd]at e
 exact e
theorem GR.done{f:dM}{g:Rows}{kv:og}{d:Nat}(w:GR f g kv d)(hd: ¬d < kv.length):kv=i0 f g:=by
 have e:=w.end_
 cases n:160000 - d with
 | zero=>rw [n]at e; exact e
 | succ n'=>rw [n,Hg,if_neg hd]at e; exact e
theorem D_{f:dM}{kv:og}{d:Nat}{rs:Rows}{h:Int}(e:kv[d]? =some (rs,h)):oh (nb f) kv d=(nb f rs).foldl (visit h) kv:=by
 unfold oh
 rw [e]
theorem foldl_take_succ{α β:Type}(F:β->α->β)(b:β){l:List α}{n:Nat}{x:α}(h:l[n]? =some x):(l.take (n+1)).foldl F b=F ((l.take n).foldl F b) x:=by
 rw [eD,h,List.foldl_append]
 rfl
def intAt(i:Nat)(ρ:eT):Nat:=match ρ[i]? with
 | some (Sl.im (.int z))=>160000 - z.toNat
 | _=>0
section
variable {P:aq}{w:World}{K:Frag}{mg:Str->Option Value}{base:Heap}{CX:f9}{C:Addr}
theorem AN:bL ["floor","goal","above","reached","done","standing","lift","behind"] ["floor","goal"] (aF r6):=⟨rfl,rfl,rfl,by decide +kernel,rfl,by decide +kernel,by decide +kernel⟩
abbrev rZ(P:aq)(w:World)(K:Frag)(mg:Str->Option Value)(base:Heap)(CX:f9)(C:Addr):Prop:=
 lO P w K mg base CX 7 "heights_above" (fun i:dM×eU×Rows=> [iK C i.1 i.2.1,rT i.2.2]) (fun i=>nW i.1 i.2.1 i.2.2) (fun i=> .ok (p9 (i0 i.1 i.2.2)))
theorem C4{f:Addr}{fd:aV}(nx:NX CX)(B:Bm mg)(G1:vx P w K mg base CX C)(G2:p_ P w K mg base CX)(F:jo K "heights_above" "heights_above" r6 f fd)(hm:mg "heights_above"=some (.ref f))(hb:Binds K fd ["floor","goal"] []):rZ P w K mg base CX C:=by
 refine HE F AN hm hb (fun i=>rfl) fun cdv A outer s H E i M0 hp hr=>⟨_,rfl,fun σ R=> ?_⟩
 obtain⟨fl,qs,g⟩:=i
 have ho:nW fl qs g:=hp
 have px:=AN.nd
 have hu8:(A.deeper (iq "heights_above" (aF r6) s.heap.objs.size f cdv)).units+8 < cLine:=by have:=sV hr; omega
 change Rep K M0 H [] (fun _=>0) [.im (iK C fl qs), .im (rT g), .un, .un, .un, .un, .un, .un] σ H at R
 change nj _ (ba r6) (ends K M0 H [] {N:=fun _=>p9 (i0 fl g)= .non,R:=fun d'=>d'=p9 (i0 fl g)}) σ H
 refine c_.start (i:=2) (rs:=g) (n:=0) hu8 R px rfl (.inl rfl) (gC rfl) (nm 1 rfl rfl) av.int fun a H1 D1=> ?_
 change c_ _ _ _ _ _ [.im (iK C fl qs), .im (rT g), .un, .un, .un, .un, .un, .un] _ _ _ _ _ at D1
 refine c_.setF (j:=3) (ds:= [lV g]) D1 px rfl (.inl rfl) (gC rfl) (by decide) (dP.lst (aP.cons (nm 1 rfl rfl) aP.nil)) (fun d hd=>by rw [aJ.mp hd]; exact kr 7 _) fun α2 v2 H2 D2=> ?_
 refine c_.set (j:=4) (d:= .int 0) D2 px rfl (.inl rfl) (gC rfl) (by decide) av.int cN fun v3 H3 D3=> ?_
 refine(dq sN fK).to (c_.while (fun ρ kv=> ∃(d:Nat) (a5 a6 a7:Sl),ρ= [.im (iK C fl qs), .im (rT g), .un, .mu (kv.map fun x=>lV x.1), .im (.int d),a5,a6,a7]/\GR fl g kv d) (fun ρ _=>intAt 4 ρ) cp D3 ⟨0,_,_,_,rfl,GR.start ho⟩ ?_)
 rintro α ρ σ kv ⟨d,a5,a6,a7,rfl,wk⟩
 refine⟨_,cG.cI .lt (nm 4 rfl rfl) (av.lenL rfl B.len (A0 3 rfl rfl)),fun h H D=> ?_,fun h H D=> ?_⟩
 ·rw [ae]at h
  have hd:d < kv.length:=by
   have:(d:Int) < kv.length:=by simpa using h
   omega
  obtain⟨wk2,hd2⟩:=wk.step ho hd
  obtain⟨rs,hh⟩: ∃rs:Rows, ∃h:Int,kv[d]? =some (rs,h):=⟨kv[d].1,kv[d].2,ai hd⟩
  obtain⟨ht,hk⟩:=hh
  rw [D_ hk]at wk2
  have hin:FZ fl g rs:=wk.B3 _ (aW hk)
  have hgo:uu fl qs rs:=⟨ho.s,hin.gd⟩
  refine c_.set (j:=5) (d:=lV rs) D px rfl (.inl rfl) (gC rfl) (by decide) (av.ixL (A0 3 rfl rfl) (nm 4 rfl rfl) (by
   rw [qa rfl (by rw [ae]; exact hd),aS]
   rw [ai hd]at hk
   rw [aC hk])) (kr 7 _) fun v4 H4 D4=> ?_
  refine(dq sN fK).to (c_.for (t:=6) (ds:=(lets fl rs).map tD) (fun n ρ kv'=> ∃a6 a7:Sl,ρ= [.im (iK C fl qs), .im (rT g), .un, .mu (kv'.map fun x=>lV x.1), .im (.int d), .im (lV rs),a6,a7]/\kv'=((nb fl rs).take n).foldl (visit ht) kv) cp rfl px rfl (.inl rfl) (by decide) D4
   (av.call G1 hr (aO nx) rfl (fl,qs,rs) (aP.cons (nm 0 rfl rfl) (aP.cons (nm 5 rfl rfl) aP.nil)) hgo rfl) (fun d hd=>by obtain⟨t,_,rfl⟩:=a9.mp hd; exact HF t) ⟨_,_,rfl,rfl⟩ (fun n ρ kv' ⟨_,_,e,_⟩=>by rw [e]; exact gC rfl) ?_ ?_)
  ·rintro γ' n dd α ρ σ H kv' hn ⟨b6,b7,rfl,ekv⟩ D
   rw [ax]at hn
   cases et:(lets fl rs)[n]? with
   | none=>rw [et]at hn; cases hn
   | some t=>
    rw [et]at hn
    cases hn
    have hl:=(qj ho.s.ok).mp (aW et)
    obtain⟨hc,hg2⟩:=wd hl
    have en:(nb fl rs)[n]? =some (mv rs t):=by unfold nb; rw [ax,et]; rfl
    have ekv2:=foldl_take_succ (visit ht) kv en
    rw [<-ekv]at ekv2
    have hpre:kv <+:kv':=by rw [ekv]; exact oq ht _ kv
    have hin': ∀x∈kv',FZ fl g x.1:=by
     rw [ekv]
     exact oz ht _ kv wk.B3 fun k hk=>Ey ho.s.ok hin k (gV hk)
    have hlen:=ho.le D.nd hin'
    have hrs:(rs,ht)∈kv':=hpre.subset (aW hk)
    refine c_.set (j:=7) (d:=lV (mv rs t)) D px rfl (.inl rfl) (gC rfl) (by decide) (av.call G2 (hr.mono (by decide)) (aO nx) rfl (rs,t) (aP.cons (nm 5 rfl rfl) (aP.cons (nm 6 rfl rfl) aP.nil)) (hc.mvOk (gH hgo.g) hgo.sm) rfl) (kr 7 _) fun v5 H5 D5=> ?_
    refine(rg sN).to (c_.ite D5 (cG.notInDc (k:=mv rs t) hu8 D5.nd (nm 7 rfl rfl) (nm 2 rfl rfl)) (fun h2 H6 D6=> ?_) fun h2 H6 D6=> ?_)
    ·have hnew:mv rs t∉kv'.map (·.1):=by simpa using h2
     have ev:visit ht kv' (mv rs t)=kv' ++ [(mv rs t,ht+1)]:=if_neg hnew
     refine(dq sN fK).to (c_.put (rs:=mv rs t) (n:=ht+1) hu8 D6 rfl (.inl rfl) (nm 7 rfl rfl) (av.add (av.dget (k:=rs) (n:=ht) hu8 D6.nd hrs (nm 2 rfl rfl) (nm 5 rfl rfl)) av.int) hnew (by show kv'.length<=sizeLine; unfold sizeLine; omega) fun H7 D7=> ?_)
     refine(rg sN).to (c_.append (j:=3) (d:=lV (mv rs t)) D7 rfl (.inl rfl) (by decide) rfl (by rw [ae]; omega) (nm 7 rfl rfl) (kr 7 _) (fun H8 D8=>⟨_,_,_,D8, .im (tD t), .im (lV (mv rs t)), ?_, ?_⟩) ⟨rfl,rfl,rfl,rfl⟩)
     ·rw [bo]; rfl
     ·rw [ekv2,ev]
    ·have hold:mv rs t∈kv'.map (·.1):=by simpa using h2
     have ev:visit ht kv' (mv rs t)=kv':=if_pos hold
     exact rA.to ⟨_,_,_,D6,_,_,rfl,by rw [ekv2,ev]⟩
  ·rintro α ρ σ H kv' ⟨b6,b7,rfl,ekv⟩ D
   rw [ae,show(lets fl rs).length=(nb fl rs).length from(ae ..).symm,dh]at ekv
   subst ekv
   refine c_.set (j:=4) (d:= .int ((d+1:Nat):Int)) D px rfl (.inl rfl) (gC rfl) (by decide) (av.to (av.add (nm 4 rfl rfl) av.int) (by rw [Int.natCast_add]; rfl)) cN fun v9 H9 D9=> ?_
   refine rA.to ⟨_,_,_,D9,⟨d+1,_,_,_,rfl,wk2⟩, ?_⟩
   show 160000 - ((d+1:Nat):Int).toNat < 160000 - (d:Int).toNat
   omega
 ·rw [ae]at h
  have hd: ¬d < kv.length:=by
   have: ¬(d:Int) < kv.length:=by simpa using h
   omega
  have e:=wk.done hd
  subst e
  exact WS.one (W1.ret (nm 2 rfl rfl) rfl) [] _ _ _ D.view
end
theorem qw: ∀(a b:List Int),dw (D.pds (a.map .int)) (D.pds (b.map .int))=decide (a=b)
 | [], []=>rfl
 | [],_::_=>rfl
 | _::_, []=>rfl
 | x::a,y::b=>by
  show((x==y)&&dw (D.pds (a.map .int)) (D.pds (b.map .int)))=decide (x::a=y::b)
  rw [qw a b]
  by_cases h:x=y
  ·subst h
   simp
  ·have:(x==y)=false:=beq_eq_false_iff_ne.mpr h
   rw [this,eX]
   symm
   apply decide_eq_false
   intro z
   exact h (List.cons.inj z).1
theorem pz(a b:List Int):D.eqv (.lst (a.map .int)) (.lst (b.map .int))=decide (a=b):=by
 rw [<-qw]
 simp only [D.eqv,D.pd,iU]
theorem xh{a b:List Int}(h:mQ a=mQ b):a.Perm b:=(pK a).symm.trans (h▸pK b)
def pA(kv:og)(rs:Rows):Int:=match kv.find? fun x=>decide (x.1=rs)with
 | some x=>x.2
 | none=>0
section
variable {f:dM}{qs:eU}{g:Rows}
theorem yT.ht(e:yT f g){rs:Rows}{n:Int}(h:(rs,n)∈i0 f g):pA (i0 f g) rs=n:=by
 unfold pA
 cases q:(i0 f g).find? fun x=>decide (x.1=rs)with
 | none=>
  have:=List.find?_eq_none.mp q _ h
  simp at this
 | some x=>
  have h1:=List.mem_of_find?_eq_some q
  have h2:=List.find?_some q
  obtain⟨k,m⟩:=x
  have h3:k=rs:=by simpa using h2
  subst h3
  exact e.be.uniq h1 h
theorem yT.has(e:yT f g){rs:Rows}(h:rs∈(i0 f g).map (·.1)):(rs,pA (i0 f g) rs)∈i0 f g:=by
 obtain⟨x,hx,rfl⟩:=a9.mp h
 rw [e.ht (n:=x.2) hx]
 exact hx
theorem yT.nb(e:yT f g)(ok:uy f){rs:Rows}{n:Int}(h:(rs,n)∈i0 f g){t:oi}(ht:isLet f rs t=true): ∃m,(mv rs t,m)∈i0 f g/\m<=n+1/\n<=m+1:=by
 have h1:=(sL ok).mpr ⟨t,ht,rfl⟩
 obtain⟨m,hm,le⟩:=e.be.Gv _ _ h _ h1
 obtain⟨n',hn,le2⟩:=e.be.Gv _ _ hm _ (Ao ok (e.B3 _ h).gd h1)
 exact⟨m,hm,le,by rw [e.be.uniq h hn]; exact le2⟩
theorem yT.down(e:yT f g)(ok:uy f){rs:Rows}{n:Int}(h:(rs,n)∈i0 f g)(hn:0 < n): ∃t,isLet f rs t=true/\pA (i0 f g) (mv rs t) < n:=by
 rcases e.be.par _ _ h with⟨_,h0⟩ | ⟨k,m,hk,hb,rfl⟩
 ·omega
 ·obtain⟨t,ht,q⟩:=(sL ok).mp (Ao ok (e.B3 _ hk).gd hb)
  exact⟨t,ht,by rw [q,e.ht hk]; omega⟩
theorem yT.below(e:yT f g): ∀(n:Nat) {rs:Rows},(rs,(n:Int))∈i0 f g-> ∀m:Nat,m<=n-> ∃r,(r,(m:Int))∈i0 f g
 | n,rs,h,m,hm=>by
  by_cases q:m=n
  ·subst q; exact⟨rs,h⟩
  ·rcases e.be.par _ _ h with⟨_,h0⟩ | ⟨k,m',hk,hb,h1⟩
   ·omega
   ·have:m'=((n - 1:Nat):Int):=by omega
    subst this
    exact yT.below e (n - 1) hk m (by omega)
theorem yT.low(e:yT f g){n:Nat}{rs:Rows}(h:(rs,(n:Int))∈i0 f g):n < 160000:=by
 have sub: ∀x∈(bD (n+1)).map (fun(m:Nat)=>(m:Int)),x∈(i0 f g).map (·.2):=fun x hx=>by
  obtain⟨m,hm,rfl⟩:=a9.mp hx
  obtain⟨r,hr⟩:=e.below n h m (by have:=gS.mp hm; omega)
  exact a9.mpr ⟨_,hr,rfl⟩
 have nd:((bD (n+1)).map (fun(m:Nat)=>(m:Int))).Nodup:=jh.mpr ((List.nodup_range (n:=n+1)).imp fun{a b} h q=>h (by omega))
 have:=zJ nd sub
 rw [ae,cg,ae]at this
 have:=e.len
 omega
end
def EL(kv:og)(rs:Rows)(t:oi):Bool:=decide (pA kv (mv rs t) < pA kv rs)
def Lh(kv:og)(rs:Rows):D->Bool
 | .tup [.int a, .int b, .int n]=>EL kv rs (a,b,n)
 | _=>false
def low(f:dM)(g rs:Rows):List oi:=(lets f rs).filter (EL (i0 f g) rs)
theorem Gk(kv:og)(rs:Rows)(l:List oi):(l.map tD).filter (Lh kv rs)=(l.filter (EL kv rs)).map tD:=by
 rw [List.filter_map]
 rfl
def way(f:dM)(g:Rows):Nat->Rows->List oi
 | 0,_=> []
 | n+1,rs=>(low f g rs).headD (0,0,0)::way f g n (mv rs ((low f g rs).headD (0,0,0)))
theorem wB(f:dM)(g:Rows): ∀(n:Nat) (rs:Rows),(way f g n rs).length=n
 | 0,_=>rfl
 | n+1,rs=>by rw [way,aH,wB f g n]
structure Au(f:dM)(qs:eU)(g rs:Rows):Prop where
 o:nW f qs g
 m:rs∈(i0 f g).map (·.1)
theorem Fu{f:dM}{qs:eU}{g rs:Rows}{n:Nat}(o:nW f qs g)(h:(rs,((n+1:Nat):Int))∈i0 f g): ∃t r,low f g rs=t::r/\isLet f rs t=true/\(mv rs t,(n:Int))∈i0 f g:=by
 have e:=o.fin
 have ok:=o.s.ok
 obtain⟨t,ht,hlt⟩:=e.down ok h (by omega)
 have hmem:t∈low f g rs:=nK.mpr ⟨(qj ok).mpr ht,by unfold EL; rw [e.ht h]; exact decide_eq_true hlt⟩
 cases q:low f g rs with
 | nil=>rw [q]at hmem; cases hmem
 | cons t0 r=>
  have h0:t0∈low f g rs:=by rw [q]; exact .head _
  obtain⟨a1,a2⟩:=nK.mp h0
  have hl:=(qj ok).mp a1
  obtain⟨m,hm,le1,le2⟩:=e.nb ok h hl
  unfold EL at a2
  rw [e.ht hm,e.ht h]at a2
  have a3:=of_decide_eq_true a2
  have:m=(n:Int):=by omega
  subst this
  exact⟨t0,r,rfl,hl,hm⟩
section
variable {P:aq}{w:World}{K:Frag}{mg:Str->Option Value}{base:Heap}{CX:f9}{C CT:Addr}
theorem rQ:bL ["standing","crates","stack"] ["standing"] (aF nG):=⟨rfl,rfl,rfl,by decide +kernel,rfl,by decide +kernel,by decide +kernel⟩
abbrev nh(P:aq)(w:World)(K:Frag)(mg:Str->Option Value)(base:Heap)(CX:f9):Prop:=
 lO P w K mg base CX 1 "crates_of" (fun rows:Rows=> [rT rows]) (fun rows=>rows.flatten.length < 64) (fun rows=> .ok (.lst ((mQ rows.flatten).map .int)))
theorem yu{f:Addr}{fd:aV}(B:Bm mg)(F:jo K "crates_of" "crates_of" nG f fd)(hm:mg "crates_of"=some (.ref f))(hb:Binds K fd ["standing"] []):nh P w K mg base CX:=by
 refine fg F rQ hm hb (fun i=>rfl) fun cdv A outer s H E rows M0 hp hr=>⟨_,rfl, ?_⟩
 have hp':rows.flatten.length < 64:=hp
 have px:=rQ.nd
 have hlen:(bF true rows).length=rows.length:=ae ..
 change WS _ M0 H (ba nG) [.im (rT rows), .un, .un] _
 refine WS.cons (W1.setF (i:=1) px rfl (.inl rfl) (gC rfl) (dP.lst aP.nil) ?_)
 refine WS.cons (W1.for (ds:=bF true rows) (fun i ρ=> ∃a,ρ= [.im (rT rows), .mu ((rows.take i).flatten.map .int),a]) cp rfl (ky.tup (nm 0 rfl rfl)) ⟨_,by rw [gU]; rfl⟩ ?_ ?_)
 ·rintro i d ρ hd ⟨a,rfl⟩
  obtain⟨r,hr',rfl⟩:=iu hd
  have l1:=ji rows i
  have l2:=kl (aW hr')
  refine⟨_,A1.name (i:=2) px rfl (.inl rfl) (gC rfl), ?_⟩
  refine WS.one (W1.extend (i:=1) (fs:=r.map .int) rfl (.inl rfl) rfl (nm 2 rfl rfl) rfl (by rw [ae,ae]; omega) ?_ ⟨rfl,rfl,rfl,rfl⟩)
  dsimp only
  rw [kZ hr',bo]
  exact⟨_,rfl⟩
 rintro ρ ⟨a,rfl⟩
 rw [hlen,dh]
 exact WS.one (W1.ret (dP.toD (dP.sortedI rfl B.sorted (A0 1 rfl rfl) hp')) rfl)
theorem Bs:bL ["standing"] ["standing"] (aF mP):=⟨rfl,rfl,rfl,by decide +kernel,rfl,by decide +kernel,by decide +kernel⟩
abbrev mO(P:aq)(w:World)(K:Frag)(mg:Str->Option Value)(base:Heap)(CT:Addr):Prop:=
 lO P w K mg base (gI P w) 2 "refuse_too_many" (fun rows:Rows=> [rT rows]) (fun rows=>rows.flatten.length < 64) (fun rows=>if rows.flatten.length<=4 then .ok .non else .error CT)
theorem zL{f:Addr}{fd:aV}(er:ym "TooMany" CT mg base)(hmc: ∃t,mg "MOST_CRATES"=some (.int 4 t))(B:Bm mg)(G:nh P w K mg base (gI P w))(F:jo K "refuse_too_many" "refuse_too_many" mP f fd)(hm:mg "refuse_too_many"=some (.ref f))(hb:Binds K fd ["standing"] []):mO P w K mg base CT:=by
 refine nq F Bs hm hb (fun i=>rfl) fun cdv A outer s H E rows M0 hp hr=> ?_
 have hp':rows.flatten.length < 64:=hp
 have nx:NX (gI P w):=kA
 by_cases hg:rows.flatten.length<=4
 ·refine .inl ⟨.non,if_pos hg, ?_⟩
  change WS _ M0 H (ba mP) [.im (rT rows)] {N:=fun _=>D.non= .non,R:=fun d'=>d'= .non}
  refine WS.one (W1.ite (cG.cI .gt (av.lenL rfl B.len (av.r (av.call G hr (aO nx) rfl rows (aP.cons (nm 0 rfl rfl) aP.nil) hp' rfl))) (si hmc rfl)) (fun h=> ?_) fun h=>WS.nil rfl)
  rw [ae,ph]at h
  have:=of_decide_eq_true h
  omega
 ·refine .inr ⟨CT,if_neg hg, ?_⟩
  change fB _ [.im (rT rows)] E (ba mP) CT
  refine fB.here (uB.ite (t:=true) (cG.to (cG.cI .gt (av.lenL rfl B.len (av.r (av.call G hr (aO nx) rfl rows (aP.cons (nm 0 rfl rfl) aP.nil) hp' rfl))) (si hmc rfl)) ?_) (fun _=>fB.here (uB.raise er rfl av.str)) fun h=>by cases h)
  rw [ae,ph]
  exact decide_eq_true (by omega)
theorem HD:bL ["floor","standing","above"] ["floor","standing","above"] (aF sI):=⟨rfl,rfl,rfl,by decide +kernel,rfl,by decide +kernel,by decide +kernel⟩
abbrev zS(P:aq)(w:World)(K:Frag)(mg:Str->Option Value)(base:Heap)(CX:f9)(C:Addr):Prop:=
 lO P w K mg base CX 7 "lowering_lifts" (fun i:dM×eU×Rows×Rows=> [iK C i.1 i.2.1,rT i.2.2.2,p9 (i0 i.1 i.2.2.1)]) (fun i=>Au i.1 i.2.1 i.2.2.1 i.2.2.2) (fun i=> .ok (.lst ((low i.1 i.2.2.1 i.2.2.2).map tD)))
theorem Dt{f:Addr}{fd:aV}(nx:NX CX)(B:Bm mg)(G1:vx P w K mg base CX C)(G2:p_ P w K mg base CX)(F:jo K "lowering_lifts" "lowering_lifts" sI f fd)(hm:mg "lowering_lifts"=some (.ref f))(hb:Binds K fd ["floor","standing","above"] []):zS P w K mg base CX C:=by
 refine fg F HD hm hb (fun i=>rfl) fun cdv A outer s H E i M0 hp hr=>⟨_,rfl, ?_⟩
 obtain⟨fl,qs,g,rs⟩:=i
 obtain⟨o,hmem⟩:=(hp:Au fl qs g rs)
 have e:=o.fin
 have hrs:=e.has hmem
 have hgo:uu fl qs rs:=⟨o.s,(e.B3 _ hrs).gd⟩
 have hu8:(A.deeper (iq "lowering_lifts" (aF sI) s.heap.objs.size f cdv)).units+8 < cLine:=by have:=sV hr; omega
 have lf:1<=fl.lf/\fl.lf<=3:=o.s.ok.lf
 have st:2<=fl.st/\fl.st<=4:=o.s.ok.st
 have hl1:=vy fl rs fl.st.toNat
 have b1:fl.lf.toNat * fl.st.toNat<=3 * 4:=o6 (by omega) (by omega)
 have b2:fl.lf.toNat * fl.st.toNat * fl.st.toNat<=3 * 4 * 4:=o6 b1 (by omega)
 have hlen:(lets fl rs).length<=48:=bu hl1 b2
 change WS _ M0 H (ba sI) [.im (iK C fl qs), .im (rT rs), .im (p9 (i0 fl g))] {N:=fun _=>D.lst ((low fl g rs).map tD)= .non,R:=fun d'=>d'= .lst ((low fl g rs).map tD)}
 refine WS.one (W1.ret (av.to (dP.toD (dP.compI (ds:=(lets fl rs).map tD) (f:=Lh (i0 fl g) rs) (cs:= [p9 (i0 fl g),lV rs]) (N':= ["lift","above","standing"]) (js:= [2,1])
  (eE.cap2 (pre:= [(".0", .local),("lift", .local),("moved", .globalImplicit)]) (mid:= []) (post:= []) (rn:= [(".0", .local),("lift", .local),("moved", .globalImplicit),("above", .cell),("standing", .cell)]) rfl (by decide +kernel) (by decide +kernel) (by decide +kernel) rfl rfl (by decide +kernel) (by decide +kernel) rfl (by decide +kernel) rfl rfl rfl rfl rfl rfl rfl rfl (by decide +kernel)) rfl (by decide +kernel)
  (ky.list (av.call G1 hr (aO nx) rfl (fl,qs,rs) (aP.cons (nm 0 rfl rfl) (aP.cons (nm 1 rfl rfl) aP.nil)) hgo rfl)) (Li rfl rfl) (by rw [ae]; omega) ?_ ?_)) (d':= .lst ((low fl g rs).map tD)) (by rw [Gk]; rfl)) rfl)
 ·intro C s₀ H₀ fp pins i d h1
  rw [ax]at h1
  cases et:(lets fl rs)[i]? with
  | none=>rw [et]at h1; cases h1
  | some t=>
   rw [et]at h1
   cases h1
   have hl:=(qj o.s.ok).mp (aW et)
   obtain⟨hc,hg2⟩:=wd hl
   obtain⟨m,hm,_,_⟩:=e.nb o.s.ok hrs hl
   refine cG.to (cG.cI .lt (av.dget (k:=mv rs t) hu8 e.be.nd hm (nm 1 rfl rfl) (av.call G2 (hr.mono (by decide)) (aO nx) rfl (rs,t) (aP.cons (nm 2 rfl rfl) (aP.cons (nm 0 rfl rfl) aP.nil)) (hc.mvOk (gH hgo.g) hgo.sm) rfl)) (av.dget (k:=rs) hu8 e.be.nd hrs (nm 1 rfl rfl) (nm 2 rfl rfl))) ?_
   show decide (m < pA (i0 fl g) rs)=decide (pA (i0 fl g) (mv rs t) < pA (i0 fl g) rs)
   rw [e.ht hm]
 ·intro C s₀ H₀ fp pins i d h1
  exact nm 0 rfl rfl
theorem Ij:bL ["floor","start","above","way","standing","lift"] ["floor","start","above"] (aF DS):=⟨rfl,rfl,rfl,by decide +kernel,rfl,by decide +kernel,by decide +kernel⟩
abbrev J6(P:aq)(w:World)(K:Frag)(mg:Str->Option Value)(base:Heap)(CX:f9)(C:Addr):Prop:=
 lO P w K mg base CX 8 "way_down" (fun i:dM×eU×Rows×Rows=> [iK C i.1 i.2.1,rT i.2.2.2,p9 (i0 i.1 i.2.2.1)]) (fun i=>Au i.1 i.2.1 i.2.2.1 i.2.2.2) (fun i=> .ok (.lst ((way i.1 i.2.2.1 (pA (i0 i.1 i.2.2.1) i.2.2.2).toNat i.2.2.2).map tD)))
theorem Jf{f:Addr}{fd:aV}(nx:NX CX)(B:Bm mg)(G1:zS P w K mg base CX C)(G2:p_ P w K mg base CX)(F:jo K "way_down" "way_down" DS f fd)(hm:mg "way_down"=some (.ref f))(hb:Binds K fd ["floor","start","above"] []):J6 P w K mg base CX C:=by
 refine fg F Ij hm hb (fun i=>rfl) fun cdv A outer s H E i M0 hp hr=>⟨_,rfl, ?_⟩
 obtain⟨fl,qs,g,rs⟩:=i
 obtain⟨o,hmem⟩:=(hp:Au fl qs g rs)
 have e:=o.fin
 have hrs:=e.has hmem
 have hn0:=e.be.nn _ _ hrs
 have px:=Ij.nd
 have hu8:(A.deeper (iq "way_down" (aF DS) s.heap.objs.size f cdv)).units+8 < cLine:=by have:=sV hr; omega
 change WS _ M0 H (ba DS) [.im (iK C fl qs), .im (rT rs), .im (p9 (i0 fl g)), .un, .un, .un] {N:=fun _=>D.lst ((way fl g (pA (i0 fl g) rs).toNat rs).map tD)= .non,R:=fun d'=>d'= .lst ((way fl g (pA (i0 fl g) rs).toNat rs).map tD)}
 generalize pA (i0 fl g) rs=z at hrs hn0 ⊢
 obtain⟨N,rfl⟩: ∃N:Nat,z=(N:Int):=⟨z.toNat,by omega⟩
 rw [cJ]
 have hN:=e.low hrs
 refine WS.cons (W1.setF (i:=3) px rfl (.inl rfl) (gC rfl) (dP.lst aP.nil) ?_)
 refine WS.cons (W1.set (i:=4) px rfl (.inl rfl) (gC rfl) (nm 1 rfl rfl) ?_)
 refine WS.cons (W1.while (fun ρ=> ∃(ws:List oi) (r:Rows) (n:Nat) (a:Sl),ρ= [.im (iK C fl qs), .im (rT rs), .im (p9 (i0 fl g)), .mu (ws.map tD), .im (rT r),a]/\(r,(n:Int))∈i0 fl g/\ws ++ way fl g n r=way fl g N rs) (fun ρ=>N - Ik 3 ρ) cp ⟨[],rs,N,_,rfl,hrs,rfl⟩ ?_)
 rintro ρ ⟨ws,r,n,a,rfl,hr1,hw⟩
 have hl:ws.length+n=N:=by
  have:=congrArg jI hw
  rw [ao,wB,wB]at this
  exact this
 refine⟨_,cG.cI .gt (av.dget (k:=r) hu8 e.be.nd hr1 (nm 2 rfl rfl) (nm 4 rfl rfl)) av.int,fun h=> ?_,fun h=> ?_⟩
 ·have h0:=of_decide_eq_true h
  obtain⟨m,rfl⟩: ∃m,n=m+1:=⟨n - 1,by omega⟩
  obtain⟨t,rest,q1,q2,q3⟩:=Fu o hr1
  obtain⟨hc,hg2⟩:=wd q2
  have hgo:uu fl qs r:=⟨o.s,(e.B3 _ hr1).gd⟩
  refine WS.cons (W1.set (i:=5) px rfl (.inl rfl) (gC rfl) (av.ixL (d:=tD t) (av.r (av.call G1 hr (aO nx) rfl (fl,qs,g,r) (aP.cons (nm 0 rfl rfl) (aP.cons (nm 4 rfl rfl) (aP.cons (nm 2 rfl rfl) aP.nil))) ⟨o,a9.mpr ⟨_,hr1,rfl⟩⟩ rfl)) av.int (by rw [q1]; exact(qa (xs:=tD t::rest.map tD) (k:=0) (j:=0) rfl (by simp)).trans rfl)) ?_)
  refine WS.cons (W1.append (i:=3) rfl (.inl rfl) rfl (nm 5 rfl rfl) (by rw [ae]; omega) ?_ ⟨rfl,rfl,rfl,rfl⟩)
  refine WS.one (W1.set (i:=4) px rfl (.inl rfl) (gC rfl) (av.call G2 (hr.mono (by decide)) (aO nx) rfl (r,t) (aP.cons (nm 4 rfl rfl) (aP.cons (nm 5 rfl rfl) aP.nil)) (hc.mvOk (gH hgo.g) hgo.sm) rfl) ?_)
  refine⟨⟨ws ++ [t],mv r t,m, .im (tD t),by rw [bo]; rfl,q3, ?_⟩, ?_⟩
  ·rw [<-hw,way,q1,aM]
   rfl
  ·show N - ((ws.map tD) ++ [tD t]).length < N - (ws.map tD).length
   rw [ao,ae,fb]
   omega
 ·have h0:=of_decide_eq_false h
  have:n=0:=by omega
  subst this
  have e2:ws=way fl g N rs:=by rw [<-hw,way,aZ]
  subst e2
  exact WS.freeze (i:=3) rfl (WS.one (W1.ret (nm 3 rfl rfl) rfl))
end
theorem zD{P:aq}{w:World}{K:Frag}{mg:Str->Option Value}{base:Heap}{C CS:Addr}(G:vT P w K mg base C CS):vx P w K mg base (gI P w) C:=yz G fun i h=>⟨⟨h.s,h.sm⟩,if_pos h.g⟩
def xa(kv:og):D:= .lst ((rH lP (kv.map (·.1))).map lV)
def wo(kv:og):D:= .lst ((rH p0 kv).map Lo)
def xC(CS CT:Addr)(f:dM)(rows:Rows)(d:D):Except Addr D:=if good f rows then(if rows.flatten.length<=4 then .ok d else .error CT)else .error CS
def sR(CS CO CT:Addr)(f:dM)(start goal:Rows):Except Addr D:=
 if good f start then
  if good f goal then
   if start.flatten.length<=4 then
    if mQ start.flatten=mQ goal.flatten then
     if start∈(i0 f goal).map (·.1)then .ok (.tup [.str "plan", .lst ((way f goal (pA (i0 f goal) start).toNat start).map tD)])
     else .ok (.tup [.str "shut",xa (i0 f start)])
    else .error CO
   else .error CT
  else .error CS
 else .error CS
theorem yT.one{f:dM}{g:Rows}(e:yT f g)(ok:uy f): ∀x∈i0 f g,x.1.length=f.st.toNat:=fun x hx=>by have:=gH (e.B3 x hx).gd; omega
section
variable {P:aq}{w:World}{K:Frag}{mg:Str->Option Value}{base:Heap}{C CS CO CT:Addr}
theorem mJ{fl:dM}{qs:eU}{rows:Rows}(hS:fZ fl qs)(hg:good fl rows=true):rows.flatten.length < 64:=by
 have:=(ow hg hS.ok.st.2 hS.ok.ht.2).1
 omega
theorem ER:bL ["floor","standing"] ["floor","standing"] (aF lW):=⟨rfl,rfl,rfl,by decide +kernel,rfl,by decide +kernel,by decide +kernel⟩
abbrev vr(P:aq)(w:World)(K:Frag)(mg:Str->Option Value)(base:Heap)(C CS CT:Addr):Prop:=
 lO P w K mg base (gI P w) 8 "come_to" (fun i:dM×eU×Rows=> [iK C i.1 i.2.1,rT i.2.2]) (fun i=>fZ i.1 i.2.1/\Small i.2.2) (fun i=>xC CS CT i.1 i.2.2 (xa (i0 i.1 i.2.2)))
theorem Bu{f:Addr}{fd:aV}(B:Bm mg)(G1:jS P w K mg base C CS)(G2:mO P w K mg base CT)(G3:rZ P w K mg base (gI P w) C)(F:jo K "come_to" "come_to" lW f fd)(hm:mg "come_to"=some (.ref f))(hb:Binds K fd ["floor","standing"] []):vr P w K mg base C CS CT:=by
 refine nq F ER hm hb (fun i=>rfl) fun cdv A outer s H E i M0 hp hr=> ?_
 obtain⟨fl,qs,rows⟩:=i
 obtain⟨hS,sm⟩:fZ fl qs/\Small rows:=hp
 have nx:NX (gI P w):=kA
 have hu8:(A.deeper (iq "come_to" (aF lW) s.heap.objs.size f cdv)).units+8 < cLine:=by have:=sV hr; omega
 have st:2<=fl.st/\fl.st<=4:=hS.ok.st
 by_cases hg:good fl rows=true
 ·by_cases h4:rows.flatten.length<=4
  ·refine .inl ⟨_,(if_pos hg).trans (if_pos h4), ?_⟩
   have o:nW fl qs rows:=⟨hS,hg,h4⟩
   have e:=o.fin
   change WS _ M0 H (ba lW) [.im (iK C fl qs), .im (rT rows)] {N:=fun _=>xa (i0 fl rows)= .non,R:=fun d'=>d'=xa (i0 fl rows)}
   refine WS.cons (W1.expr (av.call G1 (hr.mono (by decide)) (aO nx) rfl (fl,qs,rows) (aP.cons (nm 0 rfl rfl) (aP.cons (nm 1 rfl rfl) aP.nil)) ⟨hS,sm⟩ (if_pos hg)) ?_)
   refine WS.cons (W1.expr (av.call G2 (hr.mono (by decide)) (aO nx) rfl rows (aP.cons (nm 1 rfl rfl) aP.nil) (mJ hS hg) (if_pos h4)) ?_)
   exact WS.one (W1.ret (dP.toD (dP.sortedDc (m:=fl.st.toNat) hr.hd hu8 e.be.nd (e.one hS.ok) (by omega) (by have:=e.len; unfold sizeLine; omega) rfl B.sorted (av.call G3 hr (aO nx) rfl (fl,qs,rows) (aP.cons (nm 0 rfl rfl) (aP.cons (nm 1 rfl rfl) aP.nil)) o rfl))) rfl)
  ·refine .inr ⟨CT,(if_pos hg).trans (if_neg h4), ?_⟩
   change fB _ [.im (iK C fl qs), .im (rT rows)] E (ba lW) CT
   refine fB.expr (av.call G1 (hr.mono (by decide)) (aO nx) rfl (fl,qs,rows) (aP.cons (nm 0 rfl rfl) (aP.cons (nm 1 rfl rfl) aP.nil)) ⟨hS,sm⟩ (if_pos hg)) ?_
   exact fB.here (uB.expr (Ea.call (i:=rows) G2 (hr.mono (by decide)) kn rfl (aP.cons (nm 1 rfl rfl) aP.nil) (mJ hS hg) (if_neg h4)))
 ·refine .inr ⟨CS,if_neg hg, ?_⟩
  change fB _ [.im (iK C fl qs), .im (rT rows)] E (ba lW) CS
  exact fB.here (uB.expr (Ea.call (i:=(fl,qs,rows)) G1 (hr.mono (by decide)) kn rfl (aP.cons (nm 0 rfl rfl) (aP.cons (nm 1 rfl rfl) aP.nil)) ⟨hS,sm⟩ (if_neg hg)))
theorem Bq:bL ["floor","goal"] ["floor","goal"] (aF jQ):=⟨rfl,rfl,rfl,by decide +kernel,rfl,by decide +kernel,by decide +kernel⟩
abbrev se(P:aq)(w:World)(K:Frag)(mg:Str->Option Value)(base:Heap)(C CS CT:Addr):Prop:=
 lO P w K mg base (gI P w) 8 "heights" (fun i:dM×eU×Rows=> [iK C i.1 i.2.1,rT i.2.2]) (fun i=>fZ i.1 i.2.1/\Small i.2.2) (fun i=>xC CS CT i.1 i.2.2 (wo (i0 i.1 i.2.2)))
theorem zF{f:Addr}{fd:aV}(B:Bm mg)(G1:jS P w K mg base C CS)(G2:mO P w K mg base CT)(G3:rZ P w K mg base (gI P w) C)(F:jo K "heights" "heights" jQ f fd)(hm:mg "heights"=some (.ref f))(hb:Binds K fd ["floor","goal"] []):se P w K mg base C CS CT:=by
 refine nq F Bq hm hb (fun i=>rfl) fun cdv A outer s H E i M0 hp hr=> ?_
 obtain⟨fl,qs,rows⟩:=i
 obtain⟨hS,sm⟩:fZ fl qs/\Small rows:=hp
 have nx:NX (gI P w):=kA
 have hu8:(A.deeper (iq "heights" (aF jQ) s.heap.objs.size f cdv)).units+8 < cLine:=by have:=sV hr; omega
 by_cases hg:good fl rows=true
 ·by_cases h4:rows.flatten.length<=4
  ·refine .inl ⟨_,(if_pos hg).trans (if_pos h4), ?_⟩
   have o:nW fl qs rows:=⟨hS,hg,h4⟩
   have e:=o.fin
   change WS _ M0 H (ba jQ) [.im (iK C fl qs), .im (rT rows)] {N:=fun _=>wo (i0 fl rows)= .non,R:=fun d'=>d'=wo (i0 fl rows)}
   refine WS.cons (W1.expr (av.call G1 (hr.mono (by decide)) (aO nx) rfl (fl,qs,rows) (aP.cons (nm 0 rfl rfl) (aP.cons (nm 1 rfl rfl) aP.nil)) ⟨hS,sm⟩ (if_pos hg)) ?_)
   refine WS.cons (W1.expr (av.call G2 (hr.mono (by decide)) (aO nx) rfl rows (aP.cons (nm 1 rfl rfl) aP.nil) (mJ hS hg) (if_pos h4)) ?_)
   exact WS.one (W1.ret (dP.toD (dP.sortedIt hr.hd hu8 e.be.nd (by have:=e.len; unfold sizeLine; omega) rfl B.sorted (av.call G3 hr (aO nx) rfl (fl,qs,rows) (aP.cons (nm 0 rfl rfl) (aP.cons (nm 1 rfl rfl) aP.nil)) o rfl))) rfl)
  ·refine .inr ⟨CT,(if_pos hg).trans (if_neg h4), ?_⟩
   change fB _ [.im (iK C fl qs), .im (rT rows)] E (ba jQ) CT
   refine fB.expr (av.call G1 (hr.mono (by decide)) (aO nx) rfl (fl,qs,rows) (aP.cons (nm 0 rfl rfl) (aP.cons (nm 1 rfl rfl) aP.nil)) ⟨hS,sm⟩ (if_pos hg)) ?_
   exact fB.here (uB.expr (Ea.call (i:=rows) G2 (hr.mono (by decide)) kn rfl (aP.cons (nm 1 rfl rfl) aP.nil) (mJ hS hg) (if_neg h4)))
 ·refine .inr ⟨CS,if_neg hg, ?_⟩
  change fB _ [.im (iK C fl qs), .im (rT rows)] E (ba jQ) CS
  exact fB.here (uB.expr (Ea.call (i:=(fl,qs,rows)) G1 (hr.mono (by decide)) kn rfl (aP.cons (nm 0 rfl rfl) (aP.cons (nm 1 rfl rfl) aP.nil)) ⟨hS,sm⟩ (if_neg hg)))
theorem Ej:bL ["floor","start","goal","above"] ["floor","start","goal"] (aF mj):=⟨rfl,rfl,rfl,by decide +kernel,rfl,by decide +kernel,by decide +kernel⟩
structure vq(f:dM)(qs:eU)(start goal:Rows):Prop where
 s:fZ f qs
 a:Small start
 b:Small goal
abbrev DX(P:aq)(w:World)(K:Frag)(mg:Str->Option Value)(base:Heap)(C CS CO CT:Addr):Prop:=
 lO P w K mg base (gI P w) 9 "plan" (fun i:dM×eU×Rows×Rows=> [iK C i.1 i.2.1,rT i.2.2.1,rT i.2.2.2]) (fun i=>vq i.1 i.2.1 i.2.2.1 i.2.2.2) (fun i=>sR CS CO CT i.1 i.2.2.1 i.2.2.2)
theorem Ho{f:Addr}{fd:aV}(er:ym "OtherCrates" CO mg base)(B:Bm mg)(G1:jS P w K mg base C CS)(G2:mO P w K mg base CT)(G3:rZ P w K mg base (gI P w) C)(G4:nh P w K mg base (gI P w))(G5:J6 P w K mg base (gI P w) C)(F:jo K "plan" "plan" mj f fd)(hm:mg "plan"=some (.ref f))(hb:Binds K fd ["floor","start","goal"] []):DX P w K mg base C CS CO CT:=by
 refine nq F Ej hm hb (fun i=>rfl) fun cdv A outer s H E i M0 hp hr=> ?_
 obtain⟨fl,qs,start,goal⟩:=i
 obtain⟨hS,sa,sb⟩:vq fl qs start goal:=hp
 have nx:NX (gI P w):=kA
 have px:=Ej.nd
 have hu8:(A.deeper (iq "plan" (aF mj) s.heap.objs.size f cdv)).units+8 < cLine:=by have:=sV hr; omega
 have hu4:=Ge (sV hr)
 have st:2<=fl.st/\fl.st<=4:=hS.ok.st
 show(∃d,sR CS CO CT fl start goal= .ok d/\_)\/ ∃C',sR CS CO CT fl start goal= .error C'/\_
 unfold sR
 by_cases hg1:good fl start=true
 ·by_cases hg2:good fl goal=true
  ·by_cases h4:start.flatten.length<=4
   ·by_cases hc:mQ start.flatten=mQ goal.flatten
    ·rw [if_pos hg1,if_pos hg2,if_pos h4,if_pos hc]
     have o1:nW fl qs start:=⟨hS,hg1,h4⟩
     have o2:nW fl qs goal:=⟨hS,hg2,by rw [<-(xh hc).length_eq]; exact h4⟩
     have e1:=o1.fin
     have e2:=o2.fin
     refine .inl ?_
     have all: ∀{Q:Z.pM},WS (xH P w K mg base ["floor","start","goal","above"] "plan" (aF mj) f cdv A outer s H E).nox M0 H ((ba mj).drop 5) [.im (iK C fl qs), .im (rT start), .im (rT goal), .im (p9 (i0 fl goal))] Q->WS (xH P w K mg base ["floor","start","goal","above"] "plan" (aF mj) f cdv A outer s H E).nox M0 H (ba mj) [.im (iK C fl qs), .im (rT start), .im (rT goal), .un] Q:=fun{Q} k=>by
      refine WS.cons (W1.expr (av.call G1 (hr.mono (by decide)) (aO nx) rfl (fl,qs,start) (aP.cons (nm 0 rfl rfl) (aP.cons (nm 1 rfl rfl) aP.nil)) ⟨hS,sa⟩ (if_pos hg1)) ?_)
      refine WS.cons (W1.expr (av.call G1 (hr.mono (by decide)) (aO nx) rfl (fl,qs,goal) (aP.cons (nm 0 rfl rfl) (aP.cons (nm 2 rfl rfl) aP.nil)) ⟨hS,sb⟩ (if_pos hg2)) ?_)
      refine WS.cons (W1.expr (av.call G2 (hr.mono (by decide)) (aO nx) rfl start (aP.cons (nm 1 rfl rfl) aP.nil) (mJ hS hg1) (if_pos h4)) ?_)
      refine WS.cons (W1.ite (cG.ne hu4 (av.r (av.call G4 (hr.mono (by decide)) (aO nx) rfl start (aP.cons (nm 1 rfl rfl) aP.nil) (mJ hS hg1) rfl)) (av.r (av.call G4 (hr.mono (by decide)) (aO nx) rfl goal (aP.cons (nm 2 rfl rfl) aP.nil) (mJ hS hg2) rfl)) (nH 59 _) (nH 59 _)) (fun h=> ?_) fun h=>WS.nil ?_)
      ·rw [pz,decide_eq_true hc]at h
       cases h
      ·exact WS.cons (W1.set (i:=3) px rfl (.inl rfl) (gC rfl) (av.call G3 (hr.mono (by decide)) (aO nx) rfl (fl,qs,goal) (aP.cons (nm 0 rfl rfl) (aP.cons (nm 2 rfl rfl) aP.nil)) o2 rfl) k)
     by_cases hm:start∈(i0 fl goal).map (·.1)
     ·refine⟨_,if_pos hm,all ?_⟩
      refine WS.cons (W1.ite (cG.notInDc (k:=start) hu8 e2.be.nd (nm 1 rfl rfl) (nm 3 rfl rfl)) (fun h=> ?_) fun h=>WS.nil ?_)
      ·rw [decide_eq_true hm]at h
       cases h
      ·exact WS.one (W1.ret (av.tup (aP.cons av.str (aP.cons (av.call G5 hr (aO nx) rfl (fl,qs,goal,start) (aP.cons (nm 0 rfl rfl) (aP.cons (nm 1 rfl rfl) (aP.cons (nm 3 rfl rfl) aP.nil))) ⟨o2,hm⟩ rfl) aP.nil))) rfl)
     ·refine⟨_,if_neg hm,all ?_⟩
      refine WS.cons (W1.ite (cG.notInDc (k:=start) hu8 e2.be.nd (nm 1 rfl rfl) (nm 3 rfl rfl)) (fun h=> ?_) fun h=>WS.nil ?_)
      ·exact WS.one (W1.ret (av.tup (aP.cons av.str (aP.cons (dP.toD (dP.sortedDc (m:=fl.st.toNat) hr.hd hu8 e1.be.nd (e1.one hS.ok) (by omega) (by have:=e1.len; unfold sizeLine; omega) rfl B.sorted (av.call G3 (hr.mono (by decide)) (aO nx) rfl (fl,qs,start) (aP.cons (nm 0 rfl rfl) (aP.cons (nm 1 rfl rfl) aP.nil)) o1 rfl))) aP.nil))) rfl)
      ·rw [decide_eq_false hm]at h
       cases h
    ·rw [if_pos hg1,if_pos hg2,if_pos h4,if_neg hc]
     refine .inr ⟨CO,rfl, ?_⟩
     change fB _ [.im (iK C fl qs), .im (rT start), .im (rT goal), .un] E (ba mj) CO
     refine fB.expr (av.call G1 (hr.mono (by decide)) (aO nx) rfl (fl,qs,start) (aP.cons (nm 0 rfl rfl) (aP.cons (nm 1 rfl rfl) aP.nil)) ⟨hS,sa⟩ (if_pos hg1)) ?_
     refine fB.expr (av.call G1 (hr.mono (by decide)) (aO nx) rfl (fl,qs,goal) (aP.cons (nm 0 rfl rfl) (aP.cons (nm 2 rfl rfl) aP.nil)) ⟨hS,sb⟩ (if_pos hg2)) ?_
     refine fB.expr (av.call G2 (hr.mono (by decide)) (aO nx) rfl start (aP.cons (nm 1 rfl rfl) aP.nil) (mJ hS hg1) (if_pos h4)) ?_
     refine fB.here (uB.ite (t:=true) (cG.to (cG.ne hu4 (av.r (av.call G4 (hr.mono (by decide)) (aO nx) rfl start (aP.cons (nm 1 rfl rfl) aP.nil) (mJ hS hg1) rfl)) (av.r (av.call G4 (hr.mono (by decide)) (aO nx) rfl goal (aP.cons (nm 2 rfl rfl) aP.nil) (mJ hS hg2) rfl)) (nH 59 _) (nH 59 _)) ?_) (fun _=>fB.here (uB.raise er rfl av.str)) fun h=>by cases h)
     rw [pz,decide_eq_false hc]
     rfl
   ·rw [if_pos hg1,if_pos hg2,if_neg h4]
    refine .inr ⟨CT,rfl, ?_⟩
    change fB _ [.im (iK C fl qs), .im (rT start), .im (rT goal), .un] E (ba mj) CT
    refine fB.expr (av.call G1 (hr.mono (by decide)) (aO nx) rfl (fl,qs,start) (aP.cons (nm 0 rfl rfl) (aP.cons (nm 1 rfl rfl) aP.nil)) ⟨hS,sa⟩ (if_pos hg1)) ?_
    refine fB.expr (av.call G1 (hr.mono (by decide)) (aO nx) rfl (fl,qs,goal) (aP.cons (nm 0 rfl rfl) (aP.cons (nm 2 rfl rfl) aP.nil)) ⟨hS,sb⟩ (if_pos hg2)) ?_
    exact fB.here (uB.expr (Ea.call (i:=start) G2 (hr.mono (by decide)) kn rfl (aP.cons (nm 1 rfl rfl) aP.nil) (mJ hS hg1) (if_neg h4)))
  ·rw [if_pos hg1,if_neg hg2]
   refine .inr ⟨CS,rfl, ?_⟩
   change fB _ [.im (iK C fl qs), .im (rT start), .im (rT goal), .un] E (ba mj) CS
   refine fB.expr (av.call G1 (hr.mono (by decide)) (aO nx) rfl (fl,qs,start) (aP.cons (nm 0 rfl rfl) (aP.cons (nm 1 rfl rfl) aP.nil)) ⟨hS,sa⟩ (if_pos hg1)) ?_
   exact fB.here (uB.expr (Ea.call (i:=(fl,qs,goal)) G1 (hr.mono (by decide)) kn rfl (aP.cons (nm 0 rfl rfl) (aP.cons (nm 2 rfl rfl) aP.nil)) ⟨hS,sb⟩ (if_neg hg2)))
 ·rw [if_neg hg1]
  refine .inr ⟨CS,rfl, ?_⟩
  change fB _ [.im (iK C fl qs), .im (rT start), .im (rT goal), .un] E (ba mj) CS
  exact fB.here (uB.expr (Ea.call (i:=(fl,qs,start)) G1 (hr.mono (by decide)) kn rfl (aP.cons (nm 0 rfl rfl) (aP.cons (nm 1 rfl rfl) aP.nil)) ⟨hS,sa⟩ (if_neg hg1)))
end
structure K8(K:Frag)(mg:Str->Option Value)(cl:Nat->Addr)(raised:Nat->Prop):Prop where
 n0:mg "NoFloor"=some (.ref (cl 0))
 n1:mg "NoStanding"=some (.ref (cl 1))
 n2:mg "NoLift"=some (.ref (cl 2))
 n3:mg "OtherCrates"=some (.ref (cl 3))
 n4:mg "TooMany"=some (.ref (cl 4))
 n5:mg "NoNames"=some (.ref (cl 5))
 n6:mg "NoOrder"=some (.ref (cl 6))
 n7:mg "BadText"=some (.ref (cl 7))
 ve:mg "ValueError"=none
 is: ∀i j,raised i->j < 8->aQ K (.ref (cl i)) (.ref (cl j))=some (decide (i=j))
 up: ∀i,raised i->aQ K (.ref (cl i)) (.type "ValueError")=some true
 t: ∀i,raised i->Hz K (cl i)
def DW(i:Nat):List Bool:= [decide (i=0),decide (i=1),decide (i=2),decide (i=3),decide (i=4),decide (i=5),decide (i=6),decide (i=7),true]
section
variable {P:aq}{w:World}{K:Frag}{mg:Str->Option Value}{base:Heap}{CX:f9}{cl:Nat->Addr}{raised:Nat->Prop}
theorem CH:bL ["e","kinds"] ["e"] (aF A5):=⟨rfl,rfl,rfl,by decide +kernel,rfl,by decide +kernel,by decide +kernel⟩
abbrev EG(P:aq)(w:World)(K:Frag)(mg:Str->Option Value)(base:Heap)(CX:f9)(cl:Nat->Addr)(raised:Nat->Prop):Prop:=
 Ju P w K mg base CX 1 "_law_kind" (fun i:Nat=> [.exc (cl i)]) raised (fun i=> .lst ((DW i).map .bl))
theorem H_{f:Addr}{fd:aV}(B:Bm mg)(T:K8 K mg cl raised)(F:jo K "_law_kind" "_law_kind" A5 f fd)(hm:mg "_law_kind"=some (.ref f))(hb:Binds K fd ["e"] []):EG P w K mg base CX cl raised:=by
 refine He F CH hm hb (fun i=>rfl) fun cdv A outer s H E i M0 hp hr=> ?_
 have px:=CH.nd
 have hp':raised i:=hp
 have tt:=T.t i hp'
 change WS _ M0 H (ba A5) [.im (.exc (cl i)), .un] {N:=fun _=>D.lst ((DW i).map .bl)= .non,R:=fun d'=>d'= .lst ((DW i).map .bl)}
 refine WS.cons (W1.setF (i:=1) px rfl (.inl rfl) (gC rfl) (dP.lst (aP.cons (av.isiE rfl B.rC rfl T.n0 (nm 0 rfl rfl) tt (T.is i 0 hp' (by decide))) (aP.cons (av.isiE rfl B.rC rfl T.n1 (nm 0 rfl rfl) tt (T.is i 1 hp' (by decide))) (aP.cons (av.isiE rfl B.rC rfl T.n2 (nm 0 rfl rfl) tt (T.is i 2 hp' (by decide))) (aP.cons (av.isiE rfl B.rC rfl T.n3 (nm 0 rfl rfl) tt (T.is i 3 hp' (by decide))) aP.nil))))) ?_)
 refine WS.cons (W1.setF (i:=1) px rfl (.inl rfl) (gC rfl) (dP.cat (A0 1 rfl rfl) (av.r (dP.toD (dP.lst (aP.cons (av.isiE rfl B.rC rfl T.n4 (nm 0 rfl rfl) tt (T.is i 4 hp' (by decide))) (aP.cons (av.isiE rfl B.rC rfl T.n5 (nm 0 rfl rfl) tt (T.is i 5 hp' (by decide))) (aP.cons (av.isiE rfl B.rC rfl T.n6 (nm 0 rfl rfl) tt (T.is i 6 hp' (by decide))) (aP.cons (av.isiE rfl B.rC rfl T.n7 (nm 0 rfl rfl) tt (T.is i 7 hp' (by decide))) aP.nil))))))) (jr rfl)) ?_)
 exact WS.one (W1.ret (dP.toD (dP.cat (A0 1 rfl rfl) (av.r (dP.toD (dP.lst (aP.cons (av.isiET rfl B.rC rfl T.ve (by decide +kernel) (nm 0 rfl rfl) tt (T.up i hp')) aP.nil)))) (jr rfl))) rfl)
end
section
variable {P:aq}{w:World}{K:Frag}{mg:Str->Option Value}{base:Heap}{CX:f9}
theorem KI:bL ["k"] ["k"] (aF Hx):=⟨rfl,rfl,rfl,by decide +kernel,rfl,by decide +kernel,by decide +kernel⟩
abbrev JO(P:aq)(w:World)(K:Frag)(mg:Str->Option Value)(base:Heap)(CX:f9):Prop:=
 lO P w K mg base CX 1 "_law_one" (fun k:Nat=> [.int k]) (fun _=>True) (fun k=> .ok (.lst ((DW k).map .bl)))
theorem JW{f:Addr}{fd:aV}(B:Bm mg)(F:jo K "_law_one" "_law_one" Hx f fd)(hm:mg "_law_one"=some (.ref f))(hb:Binds K fd ["k"] []):JO P w K mg base CX:=by
 refine fg F KI hm hb (fun i=>rfl) fun cdv A outer s H E k M0 hp hr=>⟨_,rfl, ?_⟩
 change WS _ M0 H (ba Hx) [.im (.int k)] _
 refine WS.one (W1.ret (dP.toD (dP.cat (ds:=(bD 8).map fun j=>D.bl (decide (k=j))) (av.r (dP.toD (dP.comp (ds:=kB 0 8) (es:=(bD 8).map fun j=>D.bl (decide (k=j))) (cs:= [.int k]) (N':= ["j","k"]) (js:= [0])
  (eE.cap1 (pre:= [(".0", .local),("j", .local)]) (post:= []) (rn:= [(".0", .local),("j", .local),("k", .cell)]) rfl (by decide +kernel) (by decide +kernel) rfl (by decide +kernel) rfl (by decide +kernel) rfl rfl rfl rfl rfl (by decide +kernel)) rfl (by decide +kernel)
  (ky.to (ky.range (j:=8) rfl B.range av.int (by decide)) rfl) (Ip rfl) (by rw [ae,cg,g6]) (by rw [g6]; decide) ?_))) (av.r (dP.toD (dP.lst (aP.cons av.bl aP.nil)))) (by rw [ae,cg]; decide))) rfl)
 intro C s₀ H₀ fp pins i d e h1 h2
 obtain⟨rfl,hi⟩:=jV h1
 rw [ax,CG hi]at h2
 cases h2
 refine av.to (av.cI .eq (nm 1 rfl rfl) (nm 0 rfl rfl)) ?_
 congr 1
 exact decide_eq_decide.mpr (by omega)
end
def qG(call:Nat)(f:dM)(start goal:Rows):Option Nat:=
 if good f start&&(decide (call≠2) || good f goal)then
  if start.flatten.length<=4 then
   if call=2/\mQ start.flatten≠mQ goal.flatten then some 3 else none
  else some 4
 else some 1
def Jn:Option Nat->List Bool
 | none=> []
 | some j=>DW j
def lR(o:Option Nat):D:= .lst ((Jn o).map .bl)
theorem uZ{cl:Nat->Addr}{f:dM}{start goal:Rows}{d:D}{c:Nat}(hc:c≠2):(xC (cl 1) (cl 4) f start d= .ok d/\qG c f start goal=none)\/ ∃j,(j=1\/j=4)/\xC (cl 1) (cl 4) f start d= .error (cl j)/\qG c f start goal=some j:=by
 unfold xC qG
 rw [decide_eq_true hc,Bool.true_or,gE]
 by_cases h1:good f start=true
 ·rw [if_pos h1,if_pos h1]
  by_cases h2:start.flatten.length<=4
  ·rw [if_pos h2,if_pos h2,if_neg (fun z=>hc z.1)]
   exact .inl ⟨rfl,rfl⟩
  ·rw [if_neg h2,if_neg h2]
   exact .inr ⟨4, .inr rfl,rfl,rfl⟩
 ·rw [if_neg h1,if_neg h1]
  exact .inr ⟨1, .inl rfl,rfl,rfl⟩
theorem BY{cl:Nat->Addr}{f:dM}{start goal:Rows}:(∃d,sR (cl 1) (cl 3) (cl 4) f start goal= .ok d/\qG 2 f start goal=none)\/ ∃j,(j=1\/j=3\/j=4)/\sR (cl 1) (cl 3) (cl 4) f start goal= .error (cl j)/\qG 2 f start goal=some j:=by
 unfold sR qG
 rw [decide_eq_false (show ¬((2:Nat)≠2)from fun z=>z rfl),Bool.false_or]
 by_cases h1:good f start=true
 ·by_cases h2:good f goal=true
  ·rw [if_pos h1,if_pos h2,h1,h2,Bool.and_self,if_pos rfl]
   by_cases h3:start.flatten.length<=4
   ·rw [if_pos h3,if_pos h3]
    by_cases h4:mQ start.flatten=mQ goal.flatten
    ·have hz: ¬((2:Nat)=2/\mQ start.flatten≠mQ goal.flatten):=fun z=>z.2 h4
     rw [if_pos h4,if_neg hz]
     by_cases h5:start∈(i0 f goal).map (·.1)
     ·exact .inl ⟨_,if_pos h5,rfl⟩
     ·exact .inl ⟨_,if_neg h5,rfl⟩
    ·rw [if_neg h4,if_pos ⟨rfl,h4⟩]
     exact .inr ⟨3, .inr (.inl rfl),rfl,rfl⟩
   ·rw [if_neg h3,if_neg h3]
    exact .inr ⟨4, .inr (.inr rfl),rfl,rfl⟩
  ·rw [if_pos h1,if_neg h2,if_neg (fun z=>h2 (by rw [bx]at z; exact z.2))]
   exact .inr ⟨1, .inl rfl,rfl,rfl⟩
 ·rw [if_neg h1,if_neg (fun z=>h1 (by rw [bx]at z; exact z.1))]
  exact .inr ⟨1, .inl rfl,rfl,rfl⟩
section
variable {P:aq}{w:World}{K:Frag}{mg:Str->Option Value}{base:Heap}{C C0:Addr}{cl:Nat->Addr}{raised:Nat->Prop}
theorem AV:bL ["call","floor","start","goal","kinds","e"] ["call","floor","start","goal"] (aF wj):=⟨rfl,rfl,rfl,by decide +kernel,rfl,by decide +kernel,by decide +kernel⟩
abbrev zw(P:aq)(w:World)(K:Frag)(mg:Str->Option Value)(base:Heap)(C:Addr):Prop:=
 lO P w K mg base (gI P w) 10 "_law_kinds" (fun i:Nat×dM×eU×Rows×Rows=> [.int i.1,iK C i.2.1 i.2.2.1,rT i.2.2.2.1,rT i.2.2.2.2]) (fun i=>i.1<=2/\vq i.2.1 i.2.2.1 i.2.2.2.1 i.2.2.2.2) (fun i=> .ok (lR (qG i.1 i.2.1 i.2.2.2.1 i.2.2.2.2)))
set_option maxHeartbeats 2000000 in
theorem C6{f:Addr}{fd:aV}(hr1:raised 1)(hr3:raised 3)(hr4:raised 4)(hC0:mg "CraneError"=some (.ref C0))(hbl: ∀j,raised j->mM (cl j) C0 base)(G1:vr P w K mg base C (cl 1) (cl 4))(G2:se P w K mg base C (cl 1) (cl 4))(G3:DX P w K mg base C (cl 1) (cl 3) (cl 4))(G4:EG P w K mg base (gI P w) cl raised)
  (F:jo K "_law_kinds" "_law_kinds" wj f fd)(hm:mg "_law_kinds"=some (.ref f))(hb:Binds K fd ["call","floor","start","goal"] []):zw P w K mg base C:=by
 have nx:NX (gI P w):=kA
 refine fg F AV hm hb (fun i=>rfl) fun cdv A outer s H E i M0 hp hr=>⟨_,rfl, ?_⟩
 obtain⟨call,fl,qs,start,goal⟩:=i
 obtain⟨hc,hS,sa,sb⟩:call<=2/\vq fl qs start goal:=hp
 have px:=AV.nd
 have hra: ∀{j},(j=1\/j=4)->raised j:=fun{j} h=>by rcases h with rfl | rfl <;> assumption
 have hrb: ∀{j},(j=1\/j=3\/j=4)->raised j:=fun{j} h=>by rcases h with rfl | rfl | rfl <;> assumption
 show WS _ M0 H (ba wj) [.im (.int call), .im (iK C fl qs), .im (rT start), .im (rT goal), .un, .un] {N:=fun _=>lR (qG call fl start goal)= .non,R:=fun d'=>d'=lR (qG call fl start goal)}
 refine WS.cons (W1.setF (i:=4) px rfl (.inl rfl) (gC rfl) (dP.lst aP.nil) ?_)
 show WS _ M0 H _ [.im (.int call), .im (iK C fl qs), .im (rT start), .im (rT goal), .mu [], .un] _
 have:call=0\/call=1\/call=2:=by omega
 rcases this with rfl | rfl | rfl
 ·rcases uZ (cl:=cl) (f:=fl) (start:=start) (goal:=goal) (d:=xa (i0 fl start)) (c:=0) (by decide)with⟨e1,e2⟩ | ⟨j,hj,e1,e2⟩
  ·rw [e2]
   refine WS.cons (W1.tryOk (fun _ _ z=>z) (WS.cons (W1.ite (cG.cI .eq (nm 0 rfl rfl) av.int) (fun _=>WS.one (W1.expr (av.call G1 (hr.mono (by decide)) (aO nx) rfl (fl,qs,start) (aP.cons (nm 1 rfl rfl) (aP.cons (nm 2 rfl rfl) aP.nil)) ⟨hS,sa⟩ e1) ?_)) fun h=>by cases h)))
   refine WS.cons (W1.ite (cG.cI .eq (nm 0 rfl rfl) av.int) (fun h=>by cases h) fun _=>WS.nil (WS.one (W1.ite (cG.cI .eq (nm 0 rfl rfl) av.int) (fun h=>by cases h) fun _=>WS.nil ?_)))
   exact WS.freeze (i:=4) rfl (WS.one (W1.ret (nm 4 rfl rfl) rfl))
  ·rw [e2]
   have hj':=hra hj
   refine WS.cons (W1.tryRaise (j:=5) (C:=cl j) (D0:=C0) rfl rfl rfl px rfl rfl (gC rfl) rfl hC0 (hbl j hj') (fun pn W=>lS.ite (cG.cI .eq (nm 0 rfl rfl) av.int) (fun _=>lS.expr (Kl.call (i:=(fl,qs,start)) rfl G1 (hr.mono (by decide)) rfl (aP.cons (nm 1 rfl rfl) (aP.cons (nm 2 rfl rfl) aP.nil)) ⟨hS,sa⟩ e1)) fun h=>by cases h) fun a=>WS.one (W1.set (i:=4) px rfl (.inl rfl) (gC rfl) (av.callH (i:=j) G4 ⟨rfl,(hr.mono (show 1<=9 by decide)).dp,(hr.mono (show 1<=9 by decide)).un⟩ (aO nx) rfl (aP.cons (nm 5 rfl rfl) aP.nil) hj' rfl) ?_))
   exact WS.one (W1.ret (nm 4 rfl rfl) rfl)
 ·rcases uZ (cl:=cl) (f:=fl) (start:=start) (goal:=goal) (d:=wo (i0 fl start)) (c:=1) (by decide)with⟨e1,e2⟩ | ⟨j,hj,e1,e2⟩
  ·rw [e2]
   refine WS.cons (W1.tryOk (fun _ _ z=>z) (WS.cons (W1.ite (cG.cI .eq (nm 0 rfl rfl) av.int) (fun h=>by cases h) fun _=>WS.nil ?_)))
   refine WS.cons (W1.ite (cG.cI .eq (nm 0 rfl rfl) av.int) (fun _=>WS.one (W1.expr (av.call G2 (hr.mono (by decide)) (aO nx) rfl (fl,qs,start) (aP.cons (nm 1 rfl rfl) (aP.cons (nm 2 rfl rfl) aP.nil)) ⟨hS,sa⟩ e1) ?_)) fun h=>by cases h)
   refine WS.one (W1.ite (cG.cI .eq (nm 0 rfl rfl) av.int) (fun h=>by cases h) fun _=>WS.nil ?_)
   exact WS.freeze (i:=4) rfl (WS.one (W1.ret (nm 4 rfl rfl) rfl))
  ·rw [e2]
   have hj':=hra hj
   refine WS.cons (W1.tryRaise (j:=5) (C:=cl j) (D0:=C0) rfl rfl rfl px rfl rfl (gC rfl) rfl hC0 (hbl j hj') (fun pn W=>lS.skip (cG.to (cG.cI .eq (nm 0 rfl rfl) av.int) rfl) (lS.ite (cG.cI .eq (nm 0 rfl rfl) av.int) (fun _=>lS.expr (Kl.call (i:=(fl,qs,start)) rfl G2 (hr.mono (by decide)) rfl (aP.cons (nm 1 rfl rfl) (aP.cons (nm 2 rfl rfl) aP.nil)) ⟨hS,sa⟩ e1)) fun h=>by cases h)) fun a=>WS.one (W1.set (i:=4) px rfl (.inl rfl) (gC rfl) (av.callH (i:=j) G4 ⟨rfl,(hr.mono (show 1<=9 by decide)).dp,(hr.mono (show 1<=9 by decide)).un⟩ (aO nx) rfl (aP.cons (nm 5 rfl rfl) aP.nil) hj' rfl) ?_))
   exact WS.one (W1.ret (nm 4 rfl rfl) rfl)
 ·rcases BY (cl:=cl) (f:=fl) (start:=start) (goal:=goal)with⟨d,e1,e2⟩ | ⟨j,hj,e1,e2⟩
  ·rw [e2]
   refine WS.cons (W1.tryOk (fun _ _ z=>z) (WS.cons (W1.ite (cG.cI .eq (nm 0 rfl rfl) av.int) (fun h=>by cases h) fun _=>WS.nil ?_)))
   refine WS.cons (W1.ite (cG.cI .eq (nm 0 rfl rfl) av.int) (fun h=>by cases h) fun _=>WS.nil ?_)
   refine WS.one (W1.ite (cG.cI .eq (nm 0 rfl rfl) av.int) (fun _=>WS.one (W1.expr (av.call G3 hr (aO nx) rfl (fl,qs,start,goal) (aP.cons (nm 1 rfl rfl) (aP.cons (nm 2 rfl rfl) (aP.cons (nm 3 rfl rfl) aP.nil))) ⟨hS,sa,sb⟩ e1) ?_)) fun h=>by cases h)
   exact WS.freeze (i:=4) rfl (WS.one (W1.ret (nm 4 rfl rfl) rfl))
  ·rw [e2]
   have hj':=hrb hj
   refine WS.cons (W1.tryRaise (j:=5) (C:=cl j) (D0:=C0) rfl rfl rfl px rfl rfl (gC rfl) rfl hC0 (hbl j hj') (fun pn W=>lS.skip (cG.to (cG.cI .eq (nm 0 rfl rfl) av.int) rfl) (lS.skip (cG.to (cG.cI .eq (nm 0 rfl rfl) av.int) rfl) (lS.ite (cG.cI .eq (nm 0 rfl rfl) av.int) (fun _=>lS.expr (Kl.call (i:=(fl,qs,start,goal)) rfl G3 hr rfl (aP.cons (nm 1 rfl rfl) (aP.cons (nm 2 rfl rfl) (aP.cons (nm 3 rfl rfl) aP.nil))) ⟨hS,sa,sb⟩ e1)) fun h=>by cases h))) fun a=>WS.one (W1.set (i:=4) px rfl (.inl rfl) (gC rfl) (av.callH (i:=j) G4 ⟨rfl,(hr.mono (show 1<=9 by decide)).dp,(hr.mono (show 1<=9 by decide)).un⟩ (aO nx) rfl (aP.cons (nm 5 rfl rfl) aP.nil) hj' rfl) ?_))
   exact WS.one (W1.ret (nm 4 rfl rfl) rfl)
theorem KA:bL ["standing","cell"] ["standing","cell"] (aF Gm):=⟨rfl,rfl,rfl,by decide +kernel,rfl,by decide +kernel,by decide +kernel⟩
def bad(rows:Rows)(c:Int):Rows:=if c % 2=0 then rows ++ [[]]else rows.take (rows.length - 1) ++ [rows.getD (rows.length - 1) [] ++ [9,9]]
theorem AR{rows:Rows}{c:Int}(h0:0 < rows.length):(bad rows c).flatten.length<=rows.flatten.length+2/\(bad rows c).length<=rows.length+1:=by
 unfold bad
 split
 ·simp
 ·have e:rows.flatten.length=(rows.take (rows.length - 1)).flatten.length+(rows.getD (rows.length - 1) []).length:=by
   have h1:rows[rows.length - 1]? =some (rows.getD (rows.length - 1) []):=by
    rw [aG,ai (by omega)]; rfl
   have h2:=kZ h1
   rw [show rows.length - 1+1=rows.length by omega,dh]at h2
   rw [h2,ao]
  rw [pS,ao,ao,a8]
  simp only [cw,List.flatten_nil,aZ,ao,aH,c7]
  omega
theorem Er(n d:Nat)(h:0 < n):HT.h_ n d (some (-1))=n - 1:=by
 unfold HT.h_
 simp
 omega
theorem EX{ds:List D}(h:0 < ds.length):cutD ds none (some (-1))=ds.take (ds.length - 1):=by
 unfold cutD
 rw [Er _ _ h]
 show(ds.drop 0).take (ds.length - 1 - 0)=_
 rw [kU,Ab]
abbrev Jz(P:aq)(w:World)(K:Frag)(mg:Str->Option Value)(base:Heap)(CX:f9):Prop:=
 lO P w K mg base CX 1 "_law_bad" (fun i:Rows×Int=> [rT i.1, .int i.2]) (fun i=>0 < i.1.length/\i.1.length<=4/\i.1.flatten.length<=24) (fun i=> .ok (rT (bad i.1 i.2)))
theorem J4{f:Addr}{fd:aV}{CX:f9}(F:jo K "_law_bad" "_law_bad" Gm f fd)(hm:mg "_law_bad"=some (.ref f))(hb:Binds K fd ["standing","cell"] []):Jz P w K mg base CX:=by
 refine fg F KA hm hb (fun i=>rfl) fun cdv A outer s H E i M0 hp hr=>⟨_,rfl, ?_⟩
 obtain⟨rows,c⟩:=i
 obtain⟨h0,h4,h24⟩:0 < rows.length/\rows.length<=4/\rows.flatten.length<=24:=hp
 have lr:(bF true rows).length=rows.length:=ae ..
 change WS _ M0 H (ba Gm) [.im (rT rows), .im (.int c)] {N:=fun _=>rT (bad rows c)= .non,R:=fun d'=>d'=rT (bad rows c)}
 have hlt:rows.length - 1 < rows.length:=by omega
 have hget:rows[rows.length - 1]=rows.getD (rows.length - 1) []:=by rw [aG,ai hlt]; rfl
 refine WS.cons (W1.ite (cG.cI .eq (av.mod (nm 1 rfl rfl) av.int (by decide)) av.int) (fun h=> ?_) fun h=>WS.nil ?_)
 ·have h':c % 2=0:=of_decide_eq_true h
  refine WS.one (W1.ret (av.catT (nm 0 rfl rfl) (av.tup (aP.cons (av.tup aP.nil) aP.nil)) (by rw [lr]; show rows.length+1<=_; omega)) ?_)
  unfold bad
  rw [if_pos h']
  show D.tup (bF true rows ++ [.tup []])=rT (rows ++ [[]])
  unfold rT bF
  rw [bo]
  rfl
 ·have h': ¬c % 2=0:=of_decide_eq_false h
  have ha:uk (bF true rows) (-1)=some (.tup ((rows.getD (rows.length - 1) []).map .int)):=by
   unfold bF
   rw [qZ]
   unfold uk CA
   rw [if_neg (by omega),if_pos (by omega)]
   show(rows[((rows.length:Int)+ -1).toNat]?).map _=_
   rw [show((rows.length:Int)+ -1).toNat=rows.length - 1 by omega,ai hlt,hget]
   rfl
  have la:(rows.getD (rows.length - 1) []).length<=24:=by rw [<-hget]; exact bu (kl (aR hlt)) h24
  have ec:cutD (bF true rows) none (some (-1))=bF true (rows.take (rows.length - 1)):=by
   rw [EX (by rw [lr]; exact h0),lr]
   unfold bF
   rw [List.map_take]
  refine WS.one (W1.ret (av.catT (av.to (av.cutT (nm 0 rfl rfl) yU.none (yU.some (av.neg av.int))) (congrArg D.tup ec)) (av.tup (aP.cons (av.catT (av.ixT (nm 0 rfl rfl) (av.neg av.int) ha) (av.tup (aP.cons av.int (aP.cons av.int aP.nil))) (by rw [ae]; show _+2<=_; omega)) aP.nil)) (by show((rows.take (rows.length - 1)).map _).length+1<=_; rw [ae,a8]; omega)) ?_)
  unfold bad
  rw [if_neg h']
  show D.tup (bF true (rows.take (rows.length - 1)) ++ [.tup ((rows.getD (rows.length - 1) []).map D.int ++ [.int 9, .int 9])])=rT (rows.take (rows.length - 1) ++ [rows.getD (rows.length - 1) [] ++ [9,9]])
  unfold rT bF
  rw [bo,List.map_singleton,bo]
  rfl
end
theorem NC{X:Cx}{ρ:eT}{e:Expr}{es:List Expr}{C:Addr}{x:Str}{ns:List Str}{pos p:Pos}{CX:f9}{k:Nat}{ι:Type}{args:ι->List D}{pre:ι->Prop}{res:ι->List D->Prop}{i:ι}(F:Mr X.prog X.w X.K X.mg X.base CX k x C ns args pre res)(hr:fq (k+1) X.A)(hx:Passes CX X E0)(hg:Gl X x)(ha:aP X ρ (e::es) (args i))(hp:pre i)(hdb:(x==("__debug__":Str))=false:=by decide)
  (he:ar (e::es) X.env=(false,eval e X.env)::ar es X.env:=by rfl)(hpl:(dZ pos (ar es X.env)).any (·.1)=false:=by rfl):GO X ρ (.Call (.Name x p) (e::es) [] pos) (fun d=> ∃ds,d= .ins C ns ds/\res i ds):=GO.make F hr hx hg i ha hp hdb he hpl
theorem oA(o:Option Nat):D.flat 60 (lR o):=fun d hd=>by
 obtain⟨i,_,rfl⟩:=a9.mp hd
 exact cN
theorem KR(c:Int): ∃mn:Int,0<=mn/\mn<=7/\uk [D.int 0, .int 1, .int 2, .int 3, .int 5, .int 6, .int 7, .int 3, .int 4] (c % 9)=some (.int mn):=by
 have h0:=iD c (show(9:Int)≠0 by decide)
 have h1:=gq c (show(0:Int) < 9 by decide)
 have:c % 9=0\/c % 9=1\/c % 9=2\/c % 9=3\/c % 9=4\/c % 9=5\/c % 9=6\/c % 9=7\/c % 9=8:=by omega
 rcases this with e | e | e | e | e | e | e | e | e <;> rw [e]
 ·exact⟨0,by decide,by decide,rfl⟩
 ·exact⟨1,by decide,by decide,rfl⟩
 ·exact⟨2,by decide,by decide,rfl⟩
 ·exact⟨3,by decide,by decide,rfl⟩
 ·exact⟨5,by decide,by decide,rfl⟩
 ·exact⟨6,by decide,by decide,rfl⟩
 ·exact⟨7,by decide,by decide,rfl⟩
 ·exact⟨3,by decide,by decide,rfl⟩
 ·exact⟨4,by decide,by decide,rfl⟩
def Ht(call:Nat)(start goal:Rows):Option Nat:=if call=2/\mQ start.flatten≠mQ goal.flatten then some 3 else none
def Hk(call:Nat)(start goal:Rows):Option Nat:=if start.flatten.length<=4 then Ht call start goal else some 4
theorem DA(call:Nat)(f:dM)(start goal:Rows):qG call f start goal=if good f start&&(decide (call≠2) || good f goal)then Hk call start goal else some 1:=rfl
section
variable {P:aq}{w:World}{K:Frag}{mg:Str->Option Value}{base:Heap}{C:Addr}
theorem Iw:bL ["script","floor","many","start","goal","mode","call","due"] ["script"] (aF HM):=⟨rfl,rfl,rfl,by decide +kernel,rfl,by decide +kernel,by decide +kernel⟩
set_option maxHeartbeats 4000000 in
theorem JQ{f:Addr}{fd:aV}(B:Bm mg)(G1:Aq P w K mg base (gI P w))(G2:zQ P w K mg base (gI P w))(G3:p8 P w K mg base (gI P w))(G4:A4 P w K mg base (gI P w))(G5:DF P w K mg base (gI P w) C)(G6:zw P w K mg base C)(G7:JO P w K mg base (gI P w))(G8:wD P w K mg base (gI P w))(G9:Jz P w K mg base (gI P w))
  (F:jo K "law" "law" HM f fd):mw P w K mg base (gI P w) 11 f fd ["script"] (AL K):=by
 have nx:NX (gI P w):=kA
 refine AG F Iw (fun i=>rfl) fun cdv A outer s H E ns M0 hp hr=>⟨_,rfl, ?_⟩
 have hns:ns.length<=63:=hp
 have px:=Iw.nd
 have hr1:fq 1 _:=hr.mono (by decide)
 have hr2:fq 2 _:=hr.mono (by decide)
 have hr6:fq 6 _:=hr.mono (by decide)
 have hu:=sV hr
 have hu4:=Ge hu
 change WS _ M0 H (ba HM) [.im (.lst (ns.map .int)), .un, .un, .un, .un, .un, .un, .un] {N:=fun _=>D.bl true= .non,R:=fun d'=>d'= .bl true}
 refine WS.cons (W1.set (i:=1) px rfl (.inl rfl) (gC rfl) (av.call G2 hr2 (aO nx) rfl (ns,0,7) (aP.cons (nm 0 rfl rfl) (aP.cons av.int (aP.cons av.int aP.nil))) ⟨show 0 < 7 by decide,show 7 < 1000 by decide⟩ rfl) ?_)
 have hF:=GQ ns
 generalize sj ns 0 7=fl at hF
 have f1:2<=fl.st/\fl.st<=4:=hF.st
 have f2:1<=fl.ht/\fl.ht<=6:=hF.ht
 obtain⟨mn0,m0,m1,em⟩:=KR (cellAt ns 7)
 refine WS.cons (W1.set (i:=2) (d:= .int mn0) px rfl (.inl rfl) (gC rfl) (av.ixL (av.r (dP.toD (dP.lst (aP.cons av.int (aP.cons av.int (aP.cons av.int (aP.cons av.int (aP.cons av.int (aP.cons av.int (aP.cons av.int (aP.cons av.int (aP.cons av.int aP.nil)))))))))))) (av.mod (av.call G1 hr1 (aO nx) rfl (ns,7) (aP.cons (nm 0 rfl rfl) (aP.cons av.int aP.nil)) trivial rfl) av.int (by decide)) em) ?_)
 refine WS.cons (P:=_) (W1.imp (P:={N:=fun ρ'=> ∃mn:Int,(0<=mn/\mn<=7)/\ρ'= [.im (.lst (ns.map .int)), .im fl.d, .im (.int mn), .un, .un, .un, .un, .un],R:=fun _=>False}) (W1.ite (i5.t (i5.and (cG.cI .gt (av.ixT (nm 1 rfl rfl) av.int rfl) av.int) fun _=>i5.and1 (cG.cI .eq (nm 2 rfl rfl) av.int))) (fun _=>WS.one (W1.set (i:=2) px rfl (.inl rfl) (gC rfl) av.int ⟨3,by decide,rfl⟩)) fun _=>WS.nil ⟨mn0,⟨m0,m1⟩,rfl⟩) ?_ (fun _ z=>z.elim) (fun _ z=>z.elim) fun _ z=>z.elim)
 rintro ρ ⟨mn,⟨c0,c1⟩,rfl⟩
 have ecr:kB 0 mn.toNat=((bD mn.toNat).map (fun(i:Nat)=>(0:Int)+(i:Int))).map .int:=by unfold kB; rw [dF]; rfl
 have lcr:((bD mn.toNat).map (fun(i:Nat)=>(0:Int)+(i:Int))).length<=100:=by rw [ae,cg]; omega
 generalize (bD mn.toNat).map (fun(i:Nat)=>(0:Int)+(i:Int))=cr at ecr lcr
 refine WS.cons (W1.set (i:=3) px rfl (.inl rfl) (gC rfl) (av.call G3 hr2 (aO nx) rfl (fl,cellAt ns 8 % 2147483647,cr) (aP.cons (nm 1 rfl rfl) (aP.cons (av.mod (av.call G1 hr1 (aO nx) rfl (ns,8) (aP.cons (nm 0 rfl rfl) (aP.cons av.int aP.nil)) trivial rfl) av.int (by decide)) (aP.cons (av.to (dP.toD (dP.listRng rfl rfl B.list rfl B.range (nm 2 rfl rfl) c0 (by omega))) (by rw [ecr])) aP.nil))) ⟨f1.1,f1.2,lcr⟩ rfl) ?_)
 have hgs:=kC (f:=fl) (cell:=cellAt ns 8 % 2147483647) (crates:=cr) (by omega) (by omega)
 generalize fc fl (cellAt ns 8 % 2147483647) cr=s0 at hgs
 refine WS.cons (W1.set (i:=4) px rfl (.inl rfl) (gC rfl) (av.call G3 hr2 (aO nx) rfl (fl,cellAt ns 9 % 2147483647,cr) (aP.cons (nm 1 rfl rfl) (aP.cons (av.mod (av.call G1 hr1 (aO nx) rfl (ns,9) (aP.cons (nm 0 rfl rfl) (aP.cons av.int aP.nil)) trivial rfl) av.int (by decide)) (aP.cons (av.to (dP.toD (dP.listRng rfl rfl B.list rfl B.range (nm 2 rfl rfl) c0 (by omega))) (by rw [ecr])) aP.nil))) ⟨f1.1,f1.2,lcr⟩ rfl) ?_)
 have hgg:=kC (f:=fl) (cell:=cellAt ns 9 % 2147483647) (crates:=cr) (by omega) (by omega)
 generalize fc fl (cellAt ns 9 % 2147483647) cr=g0 at hgg
 refine WS.cons (P:=_) (W1.imp (P:={N:=fun ρ'=> ∃g1:Rows,good fl g1=true/\ρ'= [.im (.lst (ns.map .int)), .im fl.d, .im (.int mn), .im (rT s0), .im (rT g1), .un, .un, .un],R:=fun _=>False}) (W1.ite (cG.cI .eq (av.mod (av.call G1 hr1 (aO nx) rfl (ns,10) (aP.cons (nm 0 rfl rfl) (aP.cons av.int aP.nil)) trivial rfl) av.int (by decide)) av.int) (fun _=>WS.one (W1.set (i:=4) px rfl (.inl rfl) (gC rfl) (av.call G3 hr2 (aO nx) rfl (fl,cellAt ns 9 % 2147483647, [cellAt ns 10 / 3 % 9]) (aP.cons (nm 1 rfl rfl) (aP.cons (av.mod (av.call G1 hr1 (aO nx) rfl (ns,9) (aP.cons (nm 0 rfl rfl) (aP.cons av.int aP.nil)) trivial rfl) av.int (by decide)) (aP.cons (dP.toD (dP.lst (aP.cons (av.mod (av.fdiv (av.call G1 hr1 (aO nx) rfl (ns,10) (aP.cons (nm 0 rfl rfl) (aP.cons av.int aP.nil)) trivial rfl) av.int ⟨by decide,by decide⟩) av.int (by decide)) aP.nil))) aP.nil))) ⟨f1.1,f1.2,show 1<=100 by decide⟩ rfl) ⟨_,kC (by omega) (by omega),rfl⟩)) fun _=>WS.nil ⟨g0,hgg,rfl⟩) ?_ (fun _ z=>z.elim) (fun _ z=>z.elim) fun _ z=>z.elim)
 rintro ρ ⟨g1,hg1,rfl⟩
 have len: ∀{r:Rows},good fl r=true->0 < r.length/\r.length<=4/\r.flatten.length<=24:=fun{r} h=>by
  have h1:=gH h
  have h2:=(ow h f1.2 f2.2).1
  exact⟨by omega,by omega,h2⟩
 refine WS.cons (W1.set (i:=5) px rfl (.inl rfl) (gC rfl) (av.mod (av.call G1 hr1 (aO nx) rfl (ns,11) (aP.cons (nm 0 rfl rfl) (aP.cons av.int aP.nil)) trivial rfl) av.int (by decide)) ?_)
 generalize cellAt ns 11 % 6=md
 refine WS.cons (P:=_) (W1.imp (P:={N:=fun ρ'=> ∃r1:Rows,(r1.flatten.length<=26/\r1.length<=5)/\ρ'= [.im (.lst (ns.map .int)), .im fl.d, .im (.int mn), .im (rT r1), .im (rT g1), .im (.int md), .un, .un],R:=fun _=>False}) (W1.ite (cG.cI .eq (nm 5 rfl rfl) av.int) (fun _=>WS.one (W1.set (i:=3) px rfl (.inl rfl) (gC rfl) (av.call G9 hr1 (aO nx) rfl (s0,cellAt ns 11 / 6) (aP.cons (nm 3 rfl rfl) (aP.cons (av.fdiv (av.call G1 hr1 (aO nx) rfl (ns,11) (aP.cons (nm 0 rfl rfl) (aP.cons av.int aP.nil)) trivial rfl) av.int ⟨by decide,by decide⟩) aP.nil)) (len hgs) rfl) ⟨bad s0 (cellAt ns 11 / 6),(by have h1:=AR (c:=cellAt ns 11 / 6) (len hgs).1; have h2:=(len hgs).2; exact⟨by omega,by omega⟩),rfl⟩)) fun _=>WS.nil ⟨s0,(by have h2:=(len hgs).2; exact⟨by omega,by omega⟩),rfl⟩) ?_ (fun _ z=>z.elim) (fun _ z=>z.elim) fun _ z=>z.elim)
 rintro ρ ⟨r1,⟨a1,a2⟩,rfl⟩
 refine WS.cons (P:=_) (W1.imp (P:={N:=fun ρ'=> ∃r2:Rows,(r2.flatten.length<=26/\r2.length<=5)/\ρ'= [.im (.lst (ns.map .int)), .im fl.d, .im (.int mn), .im (rT r1), .im (rT r2), .im (.int md), .un, .un],R:=fun _=>False}) (W1.ite (cG.cI .eq (nm 5 rfl rfl) av.int) (fun _=>WS.one (W1.set (i:=4) px rfl (.inl rfl) (gC rfl) (av.call G9 hr1 (aO nx) rfl (g1,cellAt ns 11 / 6) (aP.cons (nm 4 rfl rfl) (aP.cons (av.fdiv (av.call G1 hr1 (aO nx) rfl (ns,11) (aP.cons (nm 0 rfl rfl) (aP.cons av.int aP.nil)) trivial rfl) av.int ⟨by decide,by decide⟩) aP.nil)) (len hg1) rfl) ⟨bad g1 (cellAt ns 11 / 6),(by have h1:=AR (c:=cellAt ns 11 / 6) (len hg1).1; have h2:=(len hg1).2; exact⟨by omega,by omega⟩),rfl⟩)) fun _=>WS.nil ⟨g1,(by have h2:=(len hg1).2; exact⟨by omega,by omega⟩),rfl⟩) ?_ (fun _ z=>z.elim) (fun _ z=>z.elim) fun _ z=>z.elim)
 rintro ρ ⟨r2,⟨b1,b2⟩,rfl⟩
 have k0:0<=cellAt ns 12 % 3:=iD _ (by decide)
 have k1:cellAt ns 12 % 3 < 3:=gq _ (by decide)
 obtain⟨cn,ec,hcn⟩: ∃cn:Nat,cellAt ns 12 % 3=(cn:Int)/\cn<=2:=⟨(cellAt ns 12 % 3).toNat,by omega,by omega⟩
 refine WS.cons (W1.set (i:=6) (d:= .int (cn:Int)) px rfl (.inl rfl) (gC rfl) (av.to (av.mod (av.call G1 hr1 (aO nx) rfl (ns,12) (aP.cons (nm 0 rfl rfl) (aP.cons av.int aP.nil)) trivial rfl) av.int (by decide)) (congrArg D.int ec)) ?_)
 refine WS.cons (W1.setF (i:=7) px rfl (.inl rfl) (gC rfl) (dP.lst aP.nil) ?_)
 refine WS.freeze (i:=7) rfl ?_
 change WS _ M0 H _ [.im (.lst (ns.map .int)), .im fl.d, .im (.int mn), .im (rT r1), .im (rT r2), .im (.int md), .im (.int (cn:Int)), .im (lR none)] _
 have p1:r1.flatten.length < 64:=by omega
 have p2:r2.flatten.length < 64:=by omega
 have q1:r1.flatten.length < 4000/\r1.length < 4000:=⟨by omega,by omega⟩
 have q2:r2.flatten.length < 4000/\r2.length < 4000:=⟨by omega,by omega⟩
 refine WS.cons (P:=_) (W1.imp (P:={N:=fun ρ'=>ρ'= [.im (.lst (ns.map .int)), .im fl.d, .im (.int mn), .im (rT r1), .im (rT r2), .im (.int md), .im (.int (cn:Int)), .im (lR (Ht cn r1 r2))],R:=fun _=>False}) (W1.ite (i5.t (i5.and (cG.cI .eq (nm 6 rfl rfl) av.int) fun _=>i5.and1 (cG.ne hu4 (av.r (av.call G8 hr1 (aO nx) rfl r1 (aP.cons (nm 3 rfl rfl) aP.nil) p1 rfl)) (av.r (av.call G8 hr1 (aO nx) rfl r2 (aP.cons (nm 4 rfl rfl) aP.nil) p2 rfl)) (nH 59 _) (nH 59 _)))) (fun h=> ?_) fun h=>WS.nil ?_) ?_ (fun _ z=>z.elim) (fun _ z=>z.elim) fun _ z=>z.elim)
 ·rw [pz,bx]at h
  have h1:cn=2:=by have:=of_decide_eq_true h.1; omega
  have h2:mQ r1.flatten≠mQ r2.flatten:=by simpa using h.2
  refine WS.one (W1.set (i:=7) px rfl (.inl rfl) (gC rfl) (av.call G7 hr1 (aO nx) rfl 3 (aP.cons av.int aP.nil) trivial rfl) ?_)
  show _=_
  unfold Ht
  rw [if_pos ⟨h1,h2⟩]
  rfl
 ·have hz: ¬(cn=2/\mQ r1.flatten≠mQ r2.flatten):=fun z=>by
   rw [pz,decide_eq_true (show((cn:Nat):Int)=2 by omega),decide_eq_false z.2]at h
   cases h
  show _=_
  unfold Ht
  rw [if_neg hz]
 rintro ρ rfl
 refine WS.cons (P:=_) (W1.imp (P:={N:=fun ρ'=>ρ'= [.im (.lst (ns.map .int)), .im fl.d, .im (.int mn), .im (rT r1), .im (rT r2), .im (.int md), .im (.int (cn:Int)), .im (lR (Hk cn r1 r2))],R:=fun _=>False}) (W1.ite (cG.cI .gt (av.lenL rfl B.len (av.r (av.call G8 hr1 (aO nx) rfl r1 (aP.cons (nm 3 rfl rfl) aP.nil) p1 rfl))) av.int) (fun h=> ?_) fun h=>WS.nil ?_) ?_ (fun _ z=>z.elim) (fun _ z=>z.elim) fun _ z=>z.elim)
 ·rw [ae,ph]at h
  have h':=of_decide_eq_true h
  refine WS.one (W1.set (i:=7) px rfl (.inl rfl) (gC rfl) (av.call G7 hr1 (aO nx) rfl 4 (aP.cons av.int aP.nil) trivial rfl) ?_)
  show _=_
  unfold Hk
  rw [if_neg (by omega)]
  rfl
 ·rw [ae,ph]at h
  have h':=of_decide_eq_false h
  show _=_
  unfold Hk
  rw [if_pos (by omega)]
 rintro ρ rfl
 refine WS.cons (P:=_) (W1.imp (P:={N:=fun ρ'=>ρ'= [.im (.lst (ns.map .int)), .im fl.d, .im (.int mn), .im (rT r1), .im (rT r2), .im (.int md), .im (.int (cn:Int)), .im (lR (qG cn fl r1 r2))],R:=fun _=>False}) (W1.ite (i5.t (i5.or (cG.not (cG.val (av.call G4 hr1 (aO nx) rfl (fl,true,r1) (aP.cons (nm 1 rfl rfl) (aP.cons (nm 3 rfl rfl) aP.nil)) q1 rfl))) fun _=>i5.or1 (i5.t (i5.and (cG.cI .eq (nm 6 rfl rfl) av.int) fun _=>i5.and1 (cG.not (cG.val (av.call G4 hr1 (aO nx) rfl (fl,true,r2) (aP.cons (nm 1 rfl rfl) (aP.cons (nm 4 rfl rfl) aP.nil)) q2 rfl))))))) (fun h=> ?_) fun h=>WS.nil ?_) ?_ (fun _ z=>z.elim) (fun _ z=>z.elim) fun _ z=>z.elim)
 ·refine WS.one (W1.set (i:=7) px rfl (.inl rfl) (gC rfl) (av.call G7 hr1 (aO nx) rfl 1 (aP.cons av.int aP.nil) trivial rfl) ?_)
  have hz:(good fl r1&&(decide (cn≠2) || good fl r2))=false:=by
   have e2:decide ((cn:Int)=2)=decide (cn=2):=decide_eq_decide.mpr (by omega)
   rw [show(fl,true,r1).1=fl from rfl]at h
   dsimp only at h
   rw [e2]at h
   by_cases h2:cn=2
   ·cases x1:good fl r1 <;> cases x2:good fl r2 <;> simp_all
   ·cases x1:good fl r1 <;> simp_all
  show _=_
  rw [DA,if_neg (by rw [hz]; exact aA)]
  rfl
 ·have hz:(good fl r1&&(decide (cn≠2) || good fl r2))=true:=by
   have e2:decide ((cn:Int)=2)=decide (cn=2):=decide_eq_decide.mpr (by omega)
   dsimp only at h
   rw [e2]at h
   by_cases h2:cn=2
   ·cases x1:good fl r1 <;> cases x2:good fl r2 <;> simp_all
   ·cases x1:good fl r1 <;> simp_all
  show _=_
  rw [DA,if_pos hz]
 rintro ρ rfl
 have hS:fZ fl (nU fl.i3):=⟨hF,bu (Ef _) hF.lu,fun p=>rW p _⟩
 refine WS.one (W1.ret (av.eq hu4 (av.r (av.call (d:=lR (qG cn fl r1 r2)) G6 hr (aO nx) rfl (cn,fl,nU fl.i3,r1,r2) (aP.cons (nm 6 rfl rfl) (aP.cons (GO.exact (d:=iK C fl (nU fl.i3)) (NC (i:=fl) G5 hr6 (aO nx) rfl (aP.cons (av.ixT (nm 1 rfl rfl) av.int rfl) (aP.cons (av.ixT (nm 1 rfl rfl) av.int rfl) (aP.cons (av.ixT (nm 1 rfl rfl) av.int rfl) (aP.cons (dP.toD (dP.listL rfl B.list (av.r (av.ixT (nm 1 rfl rfl) av.int rfl)))) aP.nil)))) hF) fun d' ⟨ds,e1,qs,e2,e3⟩=>by subst e1 e2 e3; rfl) (aP.cons (nm 3 rfl rfl) (aP.cons (nm 4 rfl rfl) aP.nil)))) ⟨hcn,hS,⟨by show r1.flatten.length<=1000; omega,by show r1.length<=1000; omega⟩,⟨by show r2.flatten.length<=1000; omega,by show r2.length<=1000; omega⟩⟩ rfl)) (av.r (nm 7 rfl rfl)) (oA _) (oA _)) ?_)
 show D.bl (D.eqv _ _)=D.bl true
 rw [DB (oA _)]
end
end K
namespace Z
open PySem PySem.Spec PyProof.Rows L2
section
variable {K:Frag}{x q:Str}{st:Stmt}{f C:Addr}{fd:aV}{a b c d e:Str}
def eu(K:Frag)(x:Str)(st:Stmt):Prop:= ∃f fd,cR K bM x=some (some (.ref f))/\jo K x x st f fd
theorem Jp{oc:Value}{od an:Option Addr}{osl:Array (Option Value)}{kV doc pm cdv ct:Value}(a:cR K bM x=some (some (.ref f)))(l:K.lookup f=some ⟨oc,od, .func (c5 x x (iL st) (ba st) (aF st) .none kV doc pm an cdv ct),osl⟩)
  (c:kS K cdv x=true)(k:eY K (.ref f)=true):eu K x st:=⟨f,_,a,DM l c k⟩
theorem eu.get{h:Heap}{mg:Str->Option Value}(d:eu K x st)(KX:K.In h)(G:h.Ns bM mg): ∃f fd,mg x=some (.ref f)/\jo K x x st f fd:=let⟨f,fd,a,F⟩:=d; ⟨f,fd,dX KX G a,F⟩
def MethAt(K:Frag)(C:Addr)(x q:Str)(st:Stmt):Prop:= ∃f fd,bj K (.ref C) x=some (some (.ref f))/\qQ K (.ref f)=true/\jo K x q st f fd
theorem HL{oc:Value}{od an:Option Addr}{osl:Array (Option Value)}{kV doc pm cdv ct:Value}(a:bj K (.ref C) x=some (some (.ref f)))(i:qQ K (.ref f)=true)(l:K.lookup f=some ⟨oc,od, .func (c5 x q (iL st) (ba st) (aF st) .none kV doc pm an cdv ct),osl⟩)
  (c:kS K cdv q=true)(k:eY K (.ref f)=true):MethAt K C x q st:=⟨f,_,a,i,DM l c k⟩
def nV(K:Frag)(x:Str):Prop:=cR K bM x=some none
def mr(K:Frag)(x:Str)(z:Int):Prop:= ∃t,cR K bM x=some (some (.int z t))
theorem int_mk{v:Value}{z:Int}(g:cR K bM x=some (some v))(h: ∃t,v= .int z t):mr K x z:=let⟨t,e⟩:=h; ⟨t,e▸g⟩
theorem Cz(F:jo K x q st f fd)(h: ∀(kV doc pm:Value) (an:Option Addr) (cdv ct v:Value),qR (c5 x q (iL st) (ba st) (aF st) .none kV doc pm an cdv ct) ⟨[v], []⟩=pure [(a,v)]:=by intros; rfl):Binds K fd [a] []:=F.binds fun _ _ _ _ _ _ us hl=>by
 obtain⟨_,rfl⟩:=LJ us hl
 exact h ..
theorem Cy(F:jo K x q st f fd)(h: ∀(kV doc pm:Value) (an:Option Addr) (cdv ct v v2:Value),qR (c5 x q (iL st) (ba st) (aF st) .none kV doc pm an cdv ct) ⟨[v,v2], []⟩=pure [(a,v),(b,v2)]:=by intros; rfl):Binds K fd [a,b] []:=F.binds fun _ _ _ _ _ _ us hl=>by
 obtain⟨_,_,rfl⟩:=LF us hl
 exact h ..
theorem Iy(F:jo K x q st f fd)(h: ∀(kV doc pm:Value) (an:Option Addr) (cdv ct v v2 v3:Value),qR (c5 x q (iL st) (ba st) (aF st) .none kV doc pm an cdv ct) ⟨[v,v2,v3], []⟩=pure [(a,v),(b,v2),(c,v3)]:=by intros; rfl):Binds K fd [a,b,c] []:=F.binds fun _ _ _ _ _ _ us hl=>by
 obtain⟨_,_,_,rfl⟩:=Mw us hl
 exact h ..
theorem Ny(F:jo K x q st f fd)(h: ∀(kV doc pm:Value) (an:Option Addr) (cdv ct v v2 v3 v4:Value),qR (c5 x q (iL st) (ba st) (aF st) .none kV doc pm an cdv ct) ⟨[v,v2,v3,v4], []⟩=pure [(a,v),(b,v2),(c,v3),(d,v4)]:=by intros; rfl):Binds K fd [a,b,c,d] []:=F.binds fun _ _ _ _ _ _ us hl=>by
 obtain⟨_,_,_,_,rfl⟩:=Ma us hl
 exact h ..
theorem Nx(F:jo K x q st f fd)(h: ∀(kV doc pm:Value) (an:Option Addr) (cdv ct v v2 v3 v4 v5:Value),qR (c5 x q (iL st) (ba st) (aF st) .none kV doc pm an cdv ct) ⟨[v,v2,v3,v4,v5], []⟩=pure [(a,v),(b,v2),(c,v3),(d,v4),(e,v5)]:=by intros; rfl):Binds K fd [a,b,c,d,e] []:=F.binds fun _ _ _ _ _ _ us hl=>by
 obtain⟨_,_,_,_,_,rfl⟩:=Mn us hl
 exact h ..
end
end Z
namespace K
open PySem L2 Z
theorem all_mk{l:IM}{w:World}{K:Frag}{h:Heap}{mg:Str->Option Value}{fa:Addr}(KX:K.In h)(G:h.Ns bM mg)(hfa:mg "law"=some (.ref fa))
  {bY fL lA bg mS br bR lB lC lD:Addr}
  (tf:cR K bM "Floor"=some (some (.ref bY)))
  (D0:eu K "_law_cell_at" Ep)
  (D1:eu K "_law_floor" zc)
  (D2:eu K "_law_good" CP)
  (D3:eu K "_law_standing" nz)
  (D4:eu K "is_within" vY)
  (D5:eu K "is_crate" zv)
  (D6:eu K "is_ban" zI)
  (D7:eu K "are_bans" rP)
  (D8:eu K "is_good_stack" l0)
  (D9:eu K "is_good" rm)
  (My:eu K "is_stack" pC)
  (Mz:eu K "can_be_done" HC)
  (MA:eu K "moved" vH)
  (MB:eu K "is_let" vW)
  (MC:eu K "refuse_unless_good" pB)
  (MD:eu K "lifts" sr)
  (ME:eu K "crates_of" nG)
  (MF:eu K "refuse_too_many" mP)
  (MG:eu K "heights_above" r6)
  (MH:eu K "lowering_lifts" sI)
  (MI:eu K "way_down" DS)
  (MJ:eu K "come_to" lW)
  (MK:eu K "heights" jQ)
  (ML:eu K "plan" mj)
  (MN:eu K "_law_kind" A5)
  (MO:eu K "_law_one" Hx)
  (MQ:eu K "_law_kinds" wj)
  (MR:eu K "_law_crates" rd)
  (MS:eu K "_law_bad" Gm)
  (MT:eu K "law" HM)
  (tj:MethAt K bY "__init__" "Floor.__init__" xK)
  (tm:MethAt K bY "stacks" "Floor.stacks" (Cw 1))
  (tq:MethAt K bY "height" "Floor.height" (Cw 2))
  (tu:MethAt K bY "lift" "Floor.lift" (Cw 3))
  (tw:MethAt K bY "bans" "Floor.bans" (Cw 4))
  (tx:my K bY Str.empty=true)
  (tF:qP K bY=true)
  (tH:Gb K bY=true)
  (tJ:bj K (.ref bY) "__setattr__"=some (some (.builtin "object.__setattr__")))
  (tK:IL K bY=true)
  (tL:eY K (.ref bY)=true)
  (gQ:bj K (.ref bY) "stack_count"=some none)
  (gR:bj K (.ref bY) "most_crates"=some none)
  (fM:bj K (.ref bY) "crane_strength"=some none)
  (gL:bj K (.ref bY) "banned_pairs"=some none)
  (kF:cR K bM "CraneError"=some (some (.ref fL)))
  (oH:cR K bM "NoFloor"=some (some (.ref lA)))
  (kG:cR K bM "NoStanding"=some (some (.ref bg)))
  (qk:cR K bM "NoLift"=some (some (.ref mS)))
  (jW:cR K bM "OtherCrates"=some (some (.ref br)))
  (oI:cR K bM "TooMany"=some (some (.ref bR)))
  (oJ:cR K bM "NoNames"=some (some (.ref lB)))
  (oK:cR K bM "NoOrder"=some (some (.ref lC)))
  (oM:cR K bM "BadText"=some (some (.ref lD)))
  (jj:eQ K bg zb "ValueError.__new__"=true)
  (iN:eQ K br zb "ValueError.__new__"=true)
  (l7:eQ K bR zb "ValueError.__new__"=true)
  (g_:eQ K fL zb "ValueError.__new__"=true)
  (hG:dU K fL (.type "BaseException")=some true)
  (kH:dU K bg (.ref fL)=some true)
  (kI:bj K (.ref bg) "__class__"=some (some (.builtin "object.__class__")))
  (kJ:bj K (.ref bg) "__getattribute__"=some (some (.builtin "BaseException.__getattribute__")))
  (kK:bj K (.ref bg) "__getattr__"=some none)
  (kL:dU K bg (.type "object")=some true)
  (kM:PySem.W.subIn K (.ref bg) (.type "BaseException")=some true)
  (jX:dU K br (.ref fL)=some true)
  (jY:bj K (.ref br) "__class__"=some (some (.builtin "object.__class__")))
  (jZ:bj K (.ref br) "__getattribute__"=some (some (.builtin "BaseException.__getattribute__")))
  (j0:bj K (.ref br) "__getattr__"=some none)
  (j4:dU K br (.type "object")=some true)
  (j5:PySem.W.subIn K (.ref br) (.type "BaseException")=some true)
  (oN:dU K bR (.ref fL)=some true)
  (oO:bj K (.ref bR) "__class__"=some (some (.builtin "object.__class__")))
  (oP:bj K (.ref bR) "__getattribute__"=some (some (.builtin "BaseException.__getattribute__")))
  (oQ:bj K (.ref bR) "__getattr__"=some none)
  (oR:dU K bR (.type "object")=some true)
  (oS:PySem.W.subIn K (.ref bR) (.type "BaseException")=some true)
  (kN:(pV K bg).isSome=true)
  (f_:aQ K (.ref bg) (.ref lA)=some false)
  (fi:aQ K (.ref bg) (.ref bg)=some true)
  (gM:aQ K (.ref bg) (.ref mS)=some false)
  (eV:aQ K (.ref bg) (.ref br)=some false)
  (gc:aQ K (.ref bg) (.ref bR)=some false)
  (gf:aQ K (.ref bg) (.ref lB)=some false)
  (gg:aQ K (.ref bg) (.ref lC)=some false)
  (gi:aQ K (.ref bg) (.ref lD)=some false)
  (kO:aQ K (.ref bg) (.type "ValueError")=some true)
  (j6:(pV K br).isSome=true)
  (fN:aQ K (.ref br) (.ref lA)=some false)
  (eW:aQ K (.ref br) (.ref bg)=some false)
  (gj:aQ K (.ref br) (.ref mS)=some false)
  (eK:aQ K (.ref br) (.ref br)=some true)
  (fO:aQ K (.ref br) (.ref bR)=some false)
  (fP:aQ K (.ref br) (.ref lB)=some false)
  (fQ:aQ K (.ref br) (.ref lC)=some false)
  (fR:aQ K (.ref br) (.ref lD)=some false)
  (j7:aQ K (.ref br) (.type "ValueError")=some true)
  (oU:(pV K bR).isSome=true)
  (ic:aQ K (.ref bR) (.ref lA)=some false)
  (gn:aQ K (.ref bR) (.ref bg)=some false)
  (iO:aQ K (.ref bR) (.ref mS)=some false)
  (fS:aQ K (.ref bR) (.ref br)=some false)
  (ie:aQ K (.ref bR) (.ref bR)=some true)
  (ig:aQ K (.ref bR) (.ref lB)=some false)
  (ik:aQ K (.ref bR) (.ref lC)=some false)
  (il:aQ K (.ref bR) (.ref lD)=some false)
  (oV:aQ K (.ref bR) (.type "ValueError")=some true)
  (Fy:nV K "len")
  (wG:nV K "range")
  (zU:nV K "list")
  (wH:nV K "tuple")
  (Fz:nV K "set")
  (l8:nV K "isinstance")
  (FA:nV K "int")
  (zV:nV K "bool")
  (FC:nV K "all")
  (FD:nV K "any")
  (FE:nV K "zip")
  (tM:nV K "sorted")
  (FF:nV K "min")
  (l9:nV K "ValueError")
  (jx:mr K "FEWEST_STACKS" 2)
  (kP:mr K "MOST_STACKS" 4)
  (jy:mr K "LOWEST_HEIGHT" 1)
  (iP:mr K "GREATEST_HEIGHT" 6)
  (jz:mr K "WEAKEST_CRANE" 1)
  (iQ:mr K "STRONGEST_CRANE" 3)
  (mT:mr K "MOST_BANS" 20)
  (kQ:mr K "FIRST_CRATE" 0)
  (l_:mr K "LAST_CRATE" 9)
  (kR:mr K "MOST_CRATES" 4):
  ∃fd:aV,(∀(s:ah) (v:Value),vi s fd ⟨[v], []⟩ [("script",v)])/\ ∀base:Heap,K.In base->base.Ns bM mg->mw l.prog w K mg base (gI l.prog w) 11 fa fd ["script"] (AL K):=by
 obtain⟨_,_,m0,F0⟩:=D0.get KX G
 obtain⟨_,_,m1,F1⟩:=D1.get KX G
 obtain⟨_,_,m2,F2⟩:=D2.get KX G
 obtain⟨_,_,m3,F3⟩:=D3.get KX G
 obtain⟨_,_,m4,F4⟩:=D4.get KX G
 obtain⟨_,_,m5,F5⟩:=D5.get KX G
 obtain⟨_,_,m6,F6⟩:=D6.get KX G
 obtain⟨_,_,m7,F7⟩:=D7.get KX G
 obtain⟨_,_,m8,F8⟩:=D8.get KX G
 obtain⟨_,_,m9,F9⟩:=D9.get KX G
 obtain⟨_,_,NK,M8⟩:=My.get KX G
 obtain⟨_,_,NL,M9⟩:=Mz.get KX G
 obtain⟨_,_,NM,M_⟩:=MA.get KX G
 obtain⟨_,_,NN,Na⟩:=MB.get KX G
 obtain⟨_,_,NO,Nb⟩:=MC.get KX G
 obtain⟨_,_,NP,Nc⟩:=MD.get KX G
 obtain⟨_,_,NQ,Nd⟩:=ME.get KX G
 obtain⟨_,_,NR,Nf⟩:=MF.get KX G
 obtain⟨_,_,NS,Ng⟩:=MG.get KX G
 obtain⟨_,_,NT,Nh⟩:=MH.get KX G
 obtain⟨_,_,NU,Ni⟩:=MI.get KX G
 obtain⟨_,_,NV,Nj⟩:=MJ.get KX G
 obtain⟨_,_,NW,Nk⟩:=MK.get KX G
 obtain⟨_,_,NY,Nl⟩:=ML.get KX G
 obtain⟨_,_,NZ,Nm⟩:=MN.get KX G
 obtain⟨_,_,N1,Nn⟩:=MO.get KX G
 obtain⟨_,_,N2,Np⟩:=MQ.get KX G
 obtain⟨_,_,N3,Nq⟩:=MR.get KX G
 obtain⟨_,_,N4,Nr⟩:=MS.get KX G
 obtain⟨_,fd,N5,Nt⟩:=MT.get KX G
 cases hfa.symm.trans N5
 obtain⟨_,_,FG,FH,yI⟩:=tj
 obtain⟨_,_,FI,FJ,tN⟩:=tm
 obtain⟨_,_,FK,FL,tO⟩:=tq
 obtain⟨_,_,FO,FP,tP⟩:=tu
 obtain⟨_,_,FQ,FR,tQ⟩:=tw
 have nx:NX (gI l.prog w):=kA
 have ci: ∀{x:Str} {z:Int},mr K x z-> ∃t,mg x=some (.int z t):=fun⟨t,g⟩=>⟨t,dX KX G g⟩
 have un: ∀{x:Str},nV K x->mg x=none:=fun z=>PySem.W.mg_none_of KX G z
 have FT:=dX KX G tf
 have FU:zo K bY:=⟨tx,tF,tH,tJ⟩
 have uC:=dX KX G kF
 have zW:=dX KX G oH
 have om:=dX KX G kG
 have Cg:=dX KX G qk
 have mU:=dX KX G jW
 have tR:=dX KX G oI
 have zX:=dX KX G oJ
 have zY:=dX KX G oK
 have zZ:=dX KX G oM
 let cl:Nat->Addr:=fun i=>if i=0 then lA else if i=1 then bg else if i=2 then mS else if i=3 then br else if i=4 then bR else if i=5 then lB else if i=6 then lC else lD
 have ET:K8 K mg cl (fun i=>i=1\/i=3\/i=4):=by
  refine⟨zW,om,Cg,mU,tR,zX,zY,zZ,un l9,fun i j hi hj=> ?_,fun i hi=> ?_,fun i hi=> ?_⟩
  ·rcases hi with rfl | rfl | rfl
   ·match j,hj with
    | 0,_=>exact f_
    | 1,_=>exact fi
    | 2,_=>exact gM
    | 3,_=>exact eV
    | 4,_=>exact gc
    | 5,_=>exact gf
    | 6,_=>exact gg
    | 7,_=>exact gi
   ·match j,hj with
    | 0,_=>exact fN
    | 1,_=>exact eW
    | 2,_=>exact gj
    | 3,_=>exact eK
    | 4,_=>exact fO
    | 5,_=>exact fP
    | 6,_=>exact fQ
    | 7,_=>exact fR
   ·match j,hj with
    | 0,_=>exact ic
    | 1,_=>exact gn
    | 2,_=>exact iO
    | 3,_=>exact fS
    | 4,_=>exact ie
    | 5,_=>exact ig
    | 6,_=>exact ik
    | 7,_=>exact il
  ·rcases hi with rfl | rfl | rfl
   ·exact kO
   ·exact j7
   ·exact oV
  ·rcases hi with rfl | rfl | rfl
   ·exact⟨⟨kI,kJ,kK,kL,kM⟩,kN⟩
   ·exact⟨⟨jY,jZ,j0,j4,j5⟩,j6⟩
   ·exact⟨⟨oO,oP,oQ,oR,oS⟩,oU⟩
 have B:Bm mg:={len:=un Fy,range:=un wG,list:=un zU,tuple:=un wH,set:=un Fz,rC:=un l8,int:=un FA,bool:=un zV,all:=un FC,any:=un FD,zip:=un FE,sorted:=un tM,min:=un FF,lu:=ci jx,most:=ci kP,low:=ci jy,great:=ci iP,weak:=ci jz,El:=ci iQ,IE:=ci mT,fst:=ci kQ,lst:=ci l_}
 have T:Jj K bY:=⟨FU,gQ,gR,fM,gL⟩
 refine⟨fd,fun s v=> ?_,fun base KB GB=> ?_⟩
 ·obtain⟨_,_,_,_,_,_,_,_,_,rfl,_⟩:=Nt.ex
  exact .of_eq rfl
 have G0:Aq l.prog w K mg base (gI l.prog w):=HP B.toBn F0 m0 (Cy F0)
 have G1:zQ l.prog w K mg base (gI l.prog w):=Fi nx B.toBn G0 F1 m1 (Iy F1)
 have G2:A4 l.prog w K mg base (gI l.prog w):=Hd nx B.toBn F2 m2 (Cy F2)
 have G3:p8 l.prog w K mg base (gI l.prog w):=xP nx B.toBn G2 F3 m3 (Iy F3)
 have G4:nE l.prog w K mg base (gI l.prog w):=Cc B F4 m4 (Iy F4)
 have G5:wt l.prog w K mg base (gI l.prog w):=EU nx B G4 F5 m5 (Cz F5)
 have G6:zj l.prog w K mg base (gI l.prog w):=Du nx B G5 F6 m6 (Cz F6)
 have G7:sv l.prog w K mg base (gI l.prog w):=zr nx B G6 F7 m7 (Cz F7)
 have L:Fl l.prog w K mg base (gI l.prog w) bY:=⟨T,BD T tN ⟨FI,FJ,tN.kp⟩ (Cz tN),BQ T tO ⟨FK,FL,tO.kp⟩ (Cz tO),Gs T tP ⟨FO,FP,tP.kp⟩ (Cz tP),GW B T tQ ⟨FQ,FR,tQ.kp⟩ (Cz tQ)⟩
 have GM:DF l.prog w K mg base (gI l.prog w) bY:=GK nx B T G4 G7 yI ⟨tK,FG,FH,tL⟩ FT (Nx yI)
 have G8:oo l.prog w K mg base (gI l.prog w) bY:=vz nx B L G5 F8 m8 (Cy F8)
 have G9:rj l.prog w K mg base (gI l.prog w) bY:=Bk nx B L G8 F9 m9 (Cy F9)
 have N6:sA l.prog w K mg base (gI l.prog w) bY:=y8 nx L G4 M8 NK (Cy M8)
 have N7:IX l.prog w K mg base (gI l.prog w) bY:=Jr nx B L N6 G4 M9 NL (Iy M9)
 have LA:p_ l.prog w K mg base (gI l.prog w):=DH B M_ NM (Cy M_)
 have N8:zN l.prog w K mg base (gI l.prog w) bY:=DR nx N7 G9 LA Na NN (Iy Na)
 have ES:ym "NoStanding" bg mg base:=vE KB om jj
 have EO:ym "OtherCrates" br mg base:=vE KB mU iN
 have EM:ym "TooMany" bR mg base:=vE KB tR l7
 have LB:jS l.prog w K mg base bY bg:=ze ES G9 Nb NO (Cy Nb)
 have N9:vT l.prog w K mg base bY bg:=BJ B L LB N8 Nc NP (Cy Nc)
 have GL:vx l.prog w K mg base (gI l.prog w) bY:=zD N9
 have Nu:nh l.prog w K mg base (gI l.prog w):=yu B Nd NQ (Cz Nd)
 have MU:mO l.prog w K mg base bR:=zL EM (ci kR) B Nu Nf NR (Cz Nf)
 have MV:rZ l.prog w K mg base (gI l.prog w) bY:=C4 nx B GL LA Ng NS (Cy Ng)
 have N_:zS l.prog w K mg base (gI l.prog w) bY:=Dt nx B GL LA Nh NT (Iy Nh)
 have Oa:J6 l.prog w K mg base (gI l.prog w) bY:=Jf nx B N_ LA Ni NU (Iy Ni)
 have Ob:vr l.prog w K mg base bY bg bR:=Bu B LB MU MV Nj NV (Cy Nj)
 have Oc:se l.prog w K mg base bY bg bR:=zF B LB MU MV Nk NW (Cy Nk)
 have Od:DX l.prog w K mg base bY bg br bR:=Ho EO B LB MU MV Nu Oa Nl NY (Iy Nl)
 have Oe:EG l.prog w K mg base (gI l.prog w) cl (fun i=>i=1\/i=3\/i=4):=H_ B ET Nm NZ (Cz Nm)
 have Og:JO l.prog w K mg base (gI l.prog w):=JW B Nn N1 (Cz Nn)
 have BL: ∀j,(j=1\/j=3\/j=4)->mM (cl j) fL base:=by
  rintro j (rfl | rfl | rfl)
  ·exact rY KB jj g_ kH hG
  ·exact rY KB iN g_ jX hG
  ·exact rY KB l7 g_ oN hG
 have Oh:zw l.prog w K mg base bY:=C6 (cl:=cl) (raised:=(fun i=>i=1\/i=3\/i=4)) (.inl rfl) (.inr (.inl rfl)) (.inr (.inr rfl)) uC BL Ob Oc Od Oe Np N2 (Ny Np)
 have Oi:wD l.prog w K mg base (gI l.prog w):=BX B Nq N3 (Cz Nq)
 have Oj:Jz l.prog w K mg base (gI l.prog w):=J4 Nr N4 (Cy Nr)
 exact JQ B G0 G1 G3 G2 GM Oh Og Oi Oj Nt
end K
open PySem PySem.W PyProof.Rows
def PySem.W.Fast.tw9766889774333834312:Unit:=()
def PySem.W.Fast.tw13325870804990233393:Unit:=()
def PySem.W.Fast.tw13562087801648501860:Unit:=()
def PySem.W.Fast.tw8051915772466580877:Unit:=()
def PySem.W.Fast.tw7026755923655996075:Unit:=()
def PySem.W.Fast.tw15950764316811266032:Unit:=()
def PySem.W.Fast.tw2999455956620399319:Unit:=()
def PySem.W.Fast.tw18258252872496845789:Unit:=()
def PySem.W.Fast.tw4221082074589363603:Unit:=()
def PySem.W.Fast.tw13226291479078903538:Unit:=()
def PySem.W.Fast.tw14221913687545051857:Unit:=()
def PySem.W.Fast.tw17199411414282323243:Unit:=()
def PySem.W.Fast.tw9931045841818510950:Unit:=()
def PySem.W.Fast.tw8606601018046341814:Unit:=()
def PySem.W.Fast.tw13263796959619335660:Unit:=()
def PySem.W.Fast.tw15878561495455142255:Unit:=()
def PySem.W.Fast.tw4885242361342313562:Unit:=()
def PySem.W.Fast.tw6292643135881014308:Unit:=()
def PySem.W.Fast.tw8176020794461309760:Unit:=()
def PySem.W.Fast.tw5613531630839752304:Unit:=()
def PySem.W.Fast.tw15661843978476991188:Unit:=()
def PySem.W.Fast.tw14083010934440378885:Unit:=()
def PySem.W.Fast.tw11667811740672618673:Unit:=()
def PySem.W.Fast.tw4882599457583596912:Unit:=()
def PySem.W.Fast.tw10739100493412083247:Unit:=()
def PySem.W.Fast.tw8746500556989019357:Unit:=()
def PySem.W.Fast.tw16450216858603164360:Unit:=()
def PySem.W.Fast.tw17531512227454550917:Unit:=()
def PySem.W.Fast.tw15331186067155342235:Unit:=()
def PySem.W.Fast.tw13435906622667014676:Unit:=()
def PySem.W.Fast.tw17206384249784310073:Unit:=()
def PySem.W.Fast.tw4913981892111750626:Unit:=()
def PySem.W.Fast.tw14831155455402036248:Unit:=()
def PySem.W.Fast.tw7590394837865917676:Unit:=()
def PySem.W.Fast.tw7920607929534257592:Unit:=()
def PySem.W.Fast.tw8042812322153707279:Unit:=()
def PySem.W.Fast.tw16181853116075202999:Unit:=()
def PySem.W.Fast.tw11688783578617848971:Unit:=()
def PySem.W.Fast.tw18355357195747325003:Unit:=()
def PySem.W.Fast.tw4478768510269008829:Unit:=()
def PySem.W.Fast.tw9220595015392430478:Unit:=()
def PySem.W.Fast.tw6511014116928457680:Unit:=()
def PySem.W.Fast.tw2819505118041103586:Unit:=()
def PySem.W.Fast.tw363198266067207972:Unit:=()
def PySem.W.Fast.tw7760844785038715629:Unit:=()
def PySem.W.Fast.tw17052109588557391997:Unit:=()
def PySem.W.Fast.tw4798302310067029075:Unit:=()
def PySem.W.Fast.tw13845232890049678214:Unit:=()
def PySem.W.Fast.tw17687333418709055754:Unit:=()
def PySem.W.Fast.tw11583471510467862765:Unit:=()
def PySem.W.Fast.tw15088725054974861949:Unit:=()
def PySem.W.Fast.tw10541286706372668778:Unit:=()
def PySem.W.Fast.tw7211426346955410212:Unit:=()
def PySem.W.Fast.tw1826831818378267525:Unit:=()
def PySem.W.Fast.tw13569495845397946510:Unit:=()
def PySem.W.Fast.tw15224082666487767076:Unit:=()
def PySem.W.Fast.tw2346229504768558767:Unit:=()
def PySem.W.Fast.tw10067548626356789105:Unit:=()
def PySem.W.Fast.tw9021600356179726307:Unit:=()
def PySem.W.Fast.tw1276335724077843125:Unit:=()
def PySem.W.Fast.tw10505721455201843039:Unit:=()
def PySem.W.Fast.tw13010969090108172267:Unit:=()
def PySem.W.Fast.tw6156916319805992198:Unit:=()
def PySem.W.Fast.tw13021912613035961967:Unit:=()
def PySem.W.Fast.tw14390267595441454727:Unit:=()
def PySem.W.Fast.tw1349096209944607692:Unit:=()
def PySem.W.Fast.tw12949282852542546795:Unit:=()
def PySem.W.Fast.tw14431731461944950232:Unit:=()
def PySem.W.Fast.tw3653975289321578695:Unit:=()
def PySem.W.Fast.tw10098716004128017456:Unit:=()
def PySem.W.Fast.tw524180547532638354:Unit:=()
set_option maxRecDepth 100000 in
set_option maxHeartbeats 0 in
theorem PySem.Challenge.cw_cranefloor_k07_what_is_refused_holds : PySem.Challenge.rw_cranefloor_k07_what_is_refused.Holds := by
 w_on; o_law; k_head; (case hw=>w_witness2)
 k_fill
 refine Z.CQ (k:=11) (l:=PySem.Challenge.rw_cranefloor_k07_what_is_refused) ⟨rfl,by decide,by decide⟩ rfl rfl (fun w h Y=>PySem.W.kIn_of Y) ?F
 case F=>
  intro w mg fa h KX G hmg
  refine' K.all_mk KX G hmg ?tf ?D0 ?D1 ?D2 ?D3 ?D4 ?D5 ?D6 ?D7 ?D8 ?D9 ?My ?Mz ?MA ?MB ?MC ?MD ?ME ?MF ?MG ?MH ?MI ?MJ ?MK ?ML ?MN ?MO ?MQ ?MR ?MS ?MT ?tj ?tm ?tq ?tu ?tw ?tx ?tF ?tH ?tJ ?tK ?tL ?gQ ?gR ?fM ?gL ?kF ?oH ?kG ?qk ?jW ?oI ?oJ ?oK ?oM ?jj ?iN ?l7 ?g_ ?hG ?kH ?kI ?kJ ?kK ?kL ?kM ?jX ?jY ?jZ ?j0 ?j4 ?j5 ?oN ?oO ?oP ?oQ ?oR ?oS ?kN ?f_ ?fi ?gM ?eV ?gc ?gf ?gg ?gi ?kO ?j6 ?fN ?eW ?gj ?eK ?fO ?fP ?fQ ?fR ?j7 ?oU ?ic ?gn ?iO ?fS ?ie ?ig ?ik ?il ?oV ?Fy ?wG ?zU ?wH ?Fz ?l8 ?FA ?zV ?FC ?FD ?FE ?tM ?FF ?l9 ?jx ?kP ?jy ?iP ?jz ?iQ ?mT ?kQ ?l_ ?kR
  (case tf=>k_is)
  (case D0|D1|D2|D3|D4|D5|D6|D7|D8|D9|My|Mz|MA|MB|MC|MD|ME|MF|MG|MH|MI|MJ|MK|ML|MN|MO|MQ|MR|MS|MT=>exact Z.Jp (by k_is) (by k_is) (by k_is) (by k_is))
  (case tj|tm|tq|tu|tw=>exact Z.HL (by k_is) (by k_is) (by k_is) (by k_is) (by k_is))
  (case tx|tF|tH|tJ|tK|tL|gQ|gR|fM|gL|kF|oH|kG|qk|jW|oI|oJ|oK|oM=>k_is)
  (case jj|iN|l7|g_=>k_exc)
  (case hG|kH|kI|kJ|kK|kL|kM|jX|jY|jZ|j0|j4|j5|oN|oO|oP|oQ|oR|oS=>k_is)
  (case kN|f_|fi|gM|eV|gc|gf|gg|gi|kO|j6|fN|eW|gj|eK|fO|fP|fQ|fR|j7|oU|ic|gn|iO|fS|ie|ig|ik|il|oV=>kernel_rfl)
  (case Fy|wG|zU|wH|Fz|l8|FA|zV|FC|FD|FE|tM|FF|l9=>delta Z.nV; k_is)
  (case jx|kP|jy|iP|jz|iQ|mT|kQ|l_|kR=>exact Z.int_mk (by k_is) ⟨_,rfl⟩)
