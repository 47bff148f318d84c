import PyProof.Rows.All
import Wide.All
import OpenK.AllK
import Wide.FinOn
import Lean
import PyProof.EqAt
import PyProof.EqKinds
import PyProof.TupleCall
import KE.KSortTup
import KE.KStateDown
import PyProof.ExcBaseAll.ValueError
import PyProof.ExcClass3
import PyProof.ExcArgsOwn
import OpenK.Peek
import OpenK.KMake
import OpenK.KDescr
import KE.KIsAll
import OpenK.KOwn
import KE.KNest
import PyProof.ListStr
import PyProof.StrBlock
import PyProof.Rows.SeqMore2
import PyProof.ListMulRoad
import PyProof.TupleOps
import PySem.Challenge.RW_cranefloor_k07_what_is_refused
set_option Elab.async false
set_option linter.all false
set_option maxRecDepth 100000
open Array renaming length_toList→aj,getElem?_toList→bD,getElem?_eq_some_iff→cp,toList_append→cE,getElem?_eq_getElem→di,forIn_toList→gO,toList_push→jF,toList_inj→j7,toList_extract→kh,getD_eq_getD_getElem?→kX,toList_reverse→qw,getD→r8,mem_of_getElem?→CN,toList_map→KD,toList_zip→KG
open Bool renaming false_ne_true→aF,false_eq_true→bo,and_eq_true→bJ,not_true→fh,false_and→fu,and_true→gX,not_eq_true'→hJ,true_and→iU,and_eq_false_iff→jS,and_false→lX,eq_iff_iff→o_
open Classical renaming byContradiction→yJ
open Except renaming ok→vI
open False renaming elim→cS
open ForInStep renaming yield→iY
open Int renaming toNat_natCast→cW,emod_lt_of_pos→gN,emod_nonneg→iX,le_refl→E9
open LawfulMonad renaming pure_bind→vJ
open List renaming length_map→ae,getElem?_eq_getElem→ah,length_append→ao,getElem?_map→aA,getD_eq_getElem?_getD→aB,size_toArray→aC,getElem?_eq_some_iff→aI,length_cons→aL,mem_singleton→aN,mem_cons→aO,append_assoc→aV,mem_iff_getElem→aW,getElem_mem→a_,mem_append_right→ba,take_append_drop→bb,mem_of_getElem?→bg,mem_map→bh,getElem_map→bp,append_nil→bq,getElem?_eq_none→bt,length_take→bu,map_cons→bx,map_append→bC,range→bH,length_drop→bI,length_set→bL,mem_append→bP,pairwise_append→bX,length_range→cg,mem_cons_self→ck,pairwise_cons→cu,length_zip→cy,mem_cons_of_mem→cA,getElem?_cons_succ→cG,flatten_cons→cJ,pairwise_iff_getElem→cM,perm_append_comm→cT,forIn_cons→dg,length_nil→dG,map_map→dI,mem_append_left→dO,take_length→dP,all_eq_true→dQ,not_mem_nil→dR,take_of_length_le→dY,getElem_drop→d_,toArray→eO,ext_getElem?→eV,take_add_one→eX,nodup_cons→eZ,drop_of_length_le→fe,getElem?_append_right→fv,length_singleton→fz,getElem?_append_left→fG,getElem?_set→fM,getElem_take→fP,getElem_of_mem→fY,mem_range→gw,forIn_nil→gA,getElem_zip→gC,pairwise_map→hV,replicate→ik,take_zero→il,mem_of_mem_take→ip,getElem_inj→iE,lookup_cons→iG,nodup_append→jE,length_replicate→jQ,map_snd_zip→j8,mem_of_mem_drop→ki,take_append_of_le_length→kl,filterMap_cons→kP,drop_zero→lY,drop_eq_getElem_cons→mM,extract_eq_take_drop→mO,lookup→mS,length→mT,take_sublist→mU,drop_sublist→mW,length_eq_zero_iff→nX,cons_append→nZ,pairwise_singleton→n8,mem_filter→o7,of_mem_zip→pb,range_succ→ph,getElem?_toArray→pB,nodup_nil→qr,getElem?_range→q8,flatten_append→q9,reverse_append→q_,zip_cons_cons→rX,getElem?_take→r6,map_nil→sT,drop_append→vK,drop_append_of_le_length→vO,all_append→wq,getElem?_replicate→AA,getElem?_set_self→BA,getElem?_set_ne→EV,getElem?_append→EZ,map_congr_left→Ff,getElem_range→IL,set_cons_succ→IM,filter_append→IP,all_eq_false→IV,perm_middle→Kz,zipIdx_cons→KC,mem_flatMap→KH,prefix_refl→KI,foldl_cons→Lc
open List.Pairwise renaming sublist→dq,nil→eU
open List.Perm renaming refl→dB,append_left→eK,trans→gU
open Nat renaming le_refl→ay,ne_of_lt→aJ,lt_of_lt_of_le→bf,le_trans→bE,zero_le→bN,ne_of_gt→bY,lt_succ_of_lt→cH,lt_irrefl→dz,lt_succ_self→gz,lt_of_le_of_lt→jh,add_sub_cancel_left→jl,le_of_lt→jy,le_of_ble_eq_true→jR,not_lt_zero→kO,le_of_eq→kU,sub_self→kY,eq_zero_or_pos→mf,add_assoc→nK,mul_le_mul→qv,min_le_right→vE,le_of_not_lt→vF,zero_add→BH,sub_zero→BJ,le_succ→EX,lt_of_succ_lt→IW,lt_trichotomy→IX,min_eq_left→Le,lt_trans→N6,mod_lt→Uo
open Ne renaming symm→sQ
open Option renaming isSome_iff_exists→Am
open Option.some renaming inj→aH
open Prod renaming ext_iff→sW
open PyProof.Rows renaming wpS_bind→aG,wpS_pure→aM,seqObj→cf,SortSt→cv,pendingOf→cz,wpS_forRange→dJ,get?_update_seq→eE,slot_tuple_getitem→eF,wpS_mono→e_,failedOf→fO,listUpdate_at→fW,envOfC→iP,IntsAre→jC,step_dedup→j5,SortKind→kj,envOfC→kM,callWith_type1→kT,AllBare→mR,wpS_get→oH,wpS_modify→oI,wpS_lift→sY,boot_isinstance→wo,subscriptTail_builtinR→BF,seqEpoch_at→E8,entry_list_sort→Lg
open PyProof.Rows.F renaming plain_set_update_loop→iO
open PySem renaming wpAny_bind→aa,wpAny_pure→af,Shared→ai,Program→aq,starEach→au,mainGlobals→ax,FuncData→bj,wpAny_newObj_type→bw,Around→bA,wpAny_field→bK,wpAny_holding→bM,wpAny_call_entry→bS,wpAny_mono→bW,wpAny_setField_rec→cq,compareOp→cP,mem_of_lookup→cQ,SetTable→cV,wpAny_callSpecial?_slot→cZ,swapsWith→dh,wpAny_setField→dC,bootBuiltins→dE,Builtin→dF,codeAny_builtin→dH,plainId_quiet→dW,wpAny_seqItems→dX,sizeLine_eq→eA,wpAny_ite_split→eD,DictEntry→eL,backTo→eQ,rawInt→eS,wpAny_isInstance→fj,wpAny_rule→fw,wpAny_truthy_bool→fJ,codeAny→fK,wpAny_typeOf→fL,behindInMarks→fU,intKind→fX,wpAny_specialOf→gT,setField→iq,firstArgMember→ir,wpAny_passesOwn→iV,sysModules→jd,pyNext→je,wpAny_Call_Name_kw→jf,slotAt→ji,unsupported→jk,foldedSetIterable→jz,codeAny_mono→jB,wpAny_pyIter_slot→jG,attributeBase→j9,binaryOp→kf,NameKind→kg,holding→kS,tupleKind→lB,ItemsAre→lZ,IsPair→l_,wpAny_loadPart_at→mV,wpAny_attempt→nI,wpAny_forIn_list→nV,wpAny_askSetting→nY,wpAny_execs_nil→o8,letOwnedTupleGo→o9,assign→qp,isSubtype_type→qt,wpAny_newTuple→qu,relabel→qx,Fin→qy,wpAny_standAt→rd,wpAny_newList→rg,IsPart→rY,wpAny_pyIter_list→sR,callerA→sU,ofAClassStatement→sV,wpAny_dictEntries→s9,PassesOwn→vC,pyIter→vD,noteFrame→vG,newExc→vH,wpAny_typeNameOfWhole_itemiter→vL,wpAny_of_eq→vN,wpAny_typeNameOfWhole_keyiter→vP,wpAny_dictEpoch→wt,BindsTo→xl,getItem→xm,entryOfKey→yt,GenState→yu,wpAny_call→yx,reduceHash→yA,closureFor→yB,wpAny_runValue→yD,isSubtype_stop→yE,wpAny_typeNameOf_itemiter→yL,wpAny_comprehension_free→Ao,setSearchFrom→Ar,wpAny_handled→As,wpAny_onRaise→Au,wpAny_typeNameOf_keyiter→Av,setFlight→AE,concat_meets→BC,wpAny_isOneOf_itemiter→BN,builtinLookup_eq_fast→CP,keywordEach→EW,hashByValue→EY,wpAny_throw→E2,loadIfAlive→E3,wpAny_updateSeq_pair→E4,wpAny_letGo→E5,excClassObj→E7,wpAny_pyIter_tuple→IK,wpAny_eqBool_int→Kw,noFill_tuple_add→Kx,checkBuiltinCall→KA,wpAny_updateSeq→Lb,typeLookup_type→Lf,Within→N5
open PySem.Around renaming under_plainId→cK,in1_units→j6
open PySem.AutoSeq1 renaming wpAny_loadPart'→cC,sub_tuple_tuple→iS,sub_list_list→BG
open PySem.Builtin.Dict renaming showsAll→pC
open PySem.Builtin.Dict_items renaming ownsTuple→wu
open PySem.Builtin.List renaming listExtendWith→fc,listSameRef→fV,listTooLong→iT,listLengthHint→xp,listTouch→BK
open PySem.Builtin.Slice renaming slicePlaces→mL,sliceAdjust→yI
open PySem.Builtin.SmallTypes renaming nextOf→bU,ownedTupleIsFree→dD
open PySem.Builtin.Tuple renaming tupleHashOf→fH,tupleExact→nH,tupleItemsOf→yy
open PySem.Calls renaming call_function_entry→yK
open PySem.Data renaming seq→yz
open PySem.F renaming plain_extend_loop→cL,called_set→fx,plain_list_iadd→gB,slot_dict_keyiterator_next→jj,slot_tuple_iterator_next→jH,plainAttrs_list→nW,slot_zip_next→pj,slot_dict_itemiterator_next→rh,slot_tuple_hash→sZ,entry_proto_collect→xn,plain_proto_collect→xo,excBase_ValueError→yF,args_tuple_add_2→An,entry_tuple_add→AB,entry_list_iadd→AD,slot_tuple_add→BD,slot_tuple_lt→CM
open PySem.Heap renaming get?_push_of_some→ag,lt_size→av,get?_push_size→az,SameBut→bR,get?_update_other→cB,size_push→cO,get?_update_self→dj,get?_none_of_le→qo,ExtBut→E1
open PySem.Heap.SameBut renaming update→bB,refl→dZ
open PySem.IsTupleKey renaming inj→yC
open PySem.NameKind renaming free→Ap
open PySem.Obj renaming mapSeq→cm,mapFields→eN,data_mapFields→gP,isFreed_of_fields→jT
open PySem.PassesOwn renaming never→cF
open PySem.PyData renaming eqvAll→dU,depthAll→eB,canLayAll0→eW,eqv→jg,canLay0→jD,depth→kW
open PySem.SetTable renaming insertAt→cj,below→df,Probe→dA,slot→Aq,runEnd→Ld,bits→MD,fill→ME
open PySem.SetTable.Met renaming empty→rZ
open PySem.SetTable.probe renaming go→fN
open PySem.Shared renaming TypeIs→gY,heap→E6
open PySem.Str renaming ofString→iF
open PySem.Value renaming ref→ak,none→aR,type→cR,bool→fS,int→gW,isInt_shape→mQ,builtin→nJ,str→Az
open PySem.W renaming nsIn→aD,keepIn→aK,codeIn→aQ,mg_of→aS,Frag→aT,fnOf→aU,kitOne→aZ,findIn→br,mroIn→eM,emptyDict→eT,excIn→fi,instObj→gS,kia_one→iW,isFn→jA,kia_tup→kN,plainGet→nU,clsIn→rf,callWith_K→rW,hasDictIn→sS,lookIn→yw,cellsFrom_some→BB,plainGet_of→Fe,methodObj→IT,plainOver→IU,takerIn→K9,makesIn→K_,OpenLaw→La
open Sum renaming inl→xj,inr→xk
open True renaming intro→c_
namespace L2
open PySem PySem.Spec PyProof.Rows
abbrev Key:=Sum Int Str
def K3:Key->Value->Bool
 | .inl k,v=>Value.isInt k v
 | .inr x,v=>Value.isStrOf x v
def Oz(w:World):Key->Int
 | .inl k=>hashInt k
 | .inr x=>hashStr w x
theorem fB: ∀{k:Key} {v:Value},K3 k v=true->(∃i t,k=xj i/\v=gW i t)\/(∃x t,k=xk x/\v=Az x t)
 | .inl i,v,h=>by
  obtain⟨t,e⟩:=mQ (k:=i) (v:=v) h
  exact .inl ⟨i,t,rfl,e⟩
 | .inr x,v,h=>by
  obtain⟨t,e⟩:=Value.isStrOf_shape (x:=x) (v:=v) h
  exact .inr ⟨x,t,rfl,e⟩
theorem Li(a b:Int):decide ((xj a:Key)=xj b)=(a==b):=by
 by_cases e:a=b
 ·subst e; simp
 ·have h: ¬(xj a:Key)=xj b:=fun q=>e (Sum.inl.inj q)
  rw [decide_eq_false h]
  exact(beq_eq_false_iff_ne.mpr e).symm
theorem Lu(a b:Str):decide ((xk a:Key)=xk b)=decide (a=b):=by
 by_cases e:a=b
 ·subst e; simp
 ·have h: ¬(xk a:Key)=xk b:=fun q=>e (Sum.inr.inj q)
  rw [decide_eq_false h,decide_eq_false e]
theorem Lh(a:Int)(b:Str):decide ((xj a:Key)=xk b)=false:=decide_eq_false (fun q=>nomatch q)
theorem LL(a:Str)(b:Int):decide ((xk a:Key)=xj b)=false:=decide_eq_false (fun q=>nomatch q)
def BW(prog:aq)(w:World):PySem.KeyKind prog w Key where
 is:=K3
 hash:=Oz w
 inj:=fun v a b ha hb=>by
  rcases fB ha with⟨i,t,rfl,rfl⟩ | ⟨x,t,rfl,rfl⟩
  ·rcases fB hb with⟨j,u,rfl,e⟩ | ⟨y,u,rfl,e⟩
   ·injection e with e1 _; rw [e1]
   ·exact nomatch e
  ·rcases fB hb with⟨j,u,rfl,e⟩ | ⟨y,u,rfl,e⟩
   ·exact nomatch e
   ·injection e with e1 _; rw [e1]
 byValue:=fun k v h=>by
  rcases fB h with⟨i,t,rfl,rfl⟩ | ⟨x,t,rfl,rfl⟩ <;> rfl
 pyHash:=fun hv h=>by
  rcases fB hv with⟨i,t,rfl,rfl⟩ | ⟨x,t,rfl,rfl⟩
  ·exact wpAny_pyHash_int h
  ·exact wpAny_pyHash_str h
 eqBool:=fun hu hv h=>by
  rcases fB hu with⟨i,t,rfl,rfl⟩ | ⟨x,t,rfl,rfl⟩
  ·rcases fB hv with⟨j,u,rfl,rfl⟩ | ⟨y,u,rfl,rfl⟩
   ·rw [Li]at h; exact Kw h
   ·rw [Lh]at h; exact SeqAt.EqAt.int_str i t y u _ _ _ _ h
  ·rcases fB hv with⟨j,u,rfl,rfl⟩ | ⟨y,u,rfl,rfl⟩
   ·rw [LL]at h; exact SeqAt.EqAt.str_int x t j u _ _ _ _ h
   ·rw [Lu]at h; exact wpAny_eqBool_str h
 «strs» :=fun k x t v h=>by
  rcases fB h with⟨i,u,rfl,e⟩ | ⟨y,u,rfl,e⟩
  ·exact nomatch e
  ·injection e with e1 _
   subst e1
   cases v <;> rfl
end L2
namespace L2
open PySem PySem.Spec PyProof.Rows
inductive V where
 | non | bl (b:Bool) | int (i:Int) | str (x:Str) | byt (b:Array UInt8) | flt (b:UInt64) | ref (a:Addr) | ty (n:String)
 deriving DecidableEq
def RelV:V->Value->Prop
 | .non,u=>u=aR
 | .bl b,u=>u=fS b
 | .int i,u=> ∃t,u=gW i t
 | .str x,u=> ∃t,u=Az x t
 | .byt b,u=> ∃t,u=Value.bytes b t
 | .flt b,u=> ∃t,u=Value.float b t
 | .ref a,u=>u=ak a
 | .ty n,u=>u=cR n
abbrev Vals:List V->List Value->Prop:=Paired RelV
theorem Vals.length{xs:List V}{us:List Value}(r:Vals xs us):xs.length=us.length:=Paired.length r
theorem Vals.get: ∀{xs:List V} {us:List Value} {i:Nat} {x:V},Vals xs us->xs[i]? =some x-> ∃u,us[i]? =some u/\RelV x u
 | _,_,_,_, .nil,e=>by simp at e
 | _,_,0,_, .cons r _,e=>by simp at e; subst e; exact⟨_,rfl,r⟩
 | _,_,i+1,x, .cons _ t,e=>by
  obtain⟨u,h1,h2⟩:=Vals.get (i:=i) (x:=x) t (by simpa using e)
  exact⟨u,by simpa using h1,h2⟩
theorem Vals.set{x:V}{u:Value}(r:RelV x u): ∀{xs:List V} {us:List Value} (i:Nat),Vals xs us->Vals (xs.set i x) (us.set i u)
 | _,_,_, .nil=> .nil
 | _,_,0, .cons _ t=> .cons r t
 | _,_,i+1, .cons q t=> .cons q (Vals.set r i t)
theorem Vals.append: ∀{xs ys:List V} {us ws:List Value},Vals xs us->Vals ys ws->Vals (xs ++ ys) (us ++ ws)
 | _,_,_,_, .nil,s=>s
 | _,_,_,_, .cons r t,s=> .cons r (Vals.append t s)
theorem Vals.take: ∀{xs:List V} {us:List Value} (n:Nat),Vals xs us->Vals (xs.take n) (us.take n)
 | _,_,0,_=> .nil
 | _,_,_+1, .nil=> .nil
 | _,_,n+1, .cons r t=> .cons r (Vals.take n t)
theorem Vals.drop: ∀{xs:List V} {us:List Value} (n:Nat),Vals xs us->Vals (xs.drop n) (us.drop n)
 | _,_,0,r=>r
 | _,_,_+1, .nil=> .nil
 | _,_,n+1, .cons _ t=>Vals.drop n t
def v_:Option V->Option Value->Prop
 | some v,some u=>RelV v u
 | none,none=>True
 | _,_=>False
def KV{κ:Type}:List (κ×V)->List (κ×Value)->Prop:=Paired fun(p:κ×V) (q:κ×Value)=>p.1=q.1/\RelV p.2 q.2
def kV:Key->V
 | .inl i=> .int i
 | .inr x=> .str x
inductive HO where
 | lst (xs:List V)
 | tup (xs:List V)
 | dK (kvs:List (Key×V)) | dT (kvs:List (List Key×V))
 | set (S:Int->Bool) (n:Nat)
 | ins (C dx:Addr) (fs:List (Str×V))
 | own (x:Addr)
 | xd (fs:List (Str×V))
 | met (f x:Addr)
 | rng (lo hi:Int)
 | frz (o:Obj) (u:HO)
 | tbl (ps:Array Value)
 | ext (φ:Heap->Prop)
abbrev Hp:=Addr->Option HO
def upd(H:Hp)(a:Addr)(o:HO):Hp:=fun b=>if b=a then some o else H b
theorem bO{H:Hp}{a:Addr}{o:HO}:upd H a o a=some o:=by unfold upd; rw [if_pos rfl]
theorem cD{H:Hp}{a b:Addr}{o:HO}(h:b≠a):upd H a o b=H b:=by unfold upd; rw [if_neg h]
theorem gc{H:Hp}{a b:Addr}{o:HO}(h:H a=some o)(h':H b=none):a≠b:=by
 intro e; subst e; rw [h]at h'; cases h'
section
variable (P:aq)(w:World)
def fR(H:Hp)(h:Heap)(a:Addr):HO->Prop
 | .lst xs=>xs.length<=sizeLine/\ ∃(its:List Value) (n:Nat),Vals xs its/\h.get? a=some {cls:= .type "list",data:= .seq its.toArray n}
 | .tup xs=>xs.length<=sizeLine/\ ∃its:List Value,Vals xs its/\IsTup h a its.toArray
 | .dK kvs=>kvs.length<=sizeLine/\(a==jd)=false/\ ∃vs,KV kvs vs/\h.DictOf (BW P w) a vs
 | .dT kvs=>kvs.length<=sizeLine/\(a==jd)=false/\ ∃xs:List (List Key×Addr×Value),
   Paired (fun(p:List Key×V) (q:List Key×Addr×Value)=>p.1=q.1/\H q.2.1=some (.tup (p.1.map kV))/\RelV p.2 q.2.2) kvs xs/\
   ∃o es ep,h.get? a=some o/\o.ExactDict/\o.data= .dict es ep/\es.toList=xs.map (yt (lB (BW P w)))/\(xs.map (·.1)).Nodup
 | .set S n=>h.SetOf (fX P w) a S n
 | .ins C dx fs=>H dx=some (.own a)/\fs.length<=1000/\dx≠a/\h.get? a=some (gS C dx)/\
   ∃mA,h.Ns1 dx mA/\(∀f,v_ (fs.lookup f) (mA f))/\N5 mA (fs.map (·.1))
 | .own _=> ∃o,h.get? a=some o
 | .xd fs=> ∃mA,h.Ns1 a mA/\ ∀f,v_ (fs.lookup f) (mA f)
 | .rng lo hi=> ∃t u v,h.get? a=some {cls:= .type "range",data:= .fields #[.int lo t, .int hi u, .int 1 v]}
 | .frz o u=>h.get? a=some o/\fR H h a u
 | .tbl ps=>h.get? a=some {cls:= .none,data:= .fields ps}
 | .met f x=>h.get? a=some (IT (.ref f) (.ref x))
 | .ext φ=>φ h/\(∃o,h.get? a=some o)/\ ∀h1 h2:Heap,φ h1->(∀o,h1.get? a=some o->h2.get? a=some o)->φ h2
def pG(H:Hp)(h:Heap):Prop:= ∀a o,H a=some o->fR P w H h a o
end
section
variable {P:aq}{w:World}{H H':Hp}{h h':Heap}{a:Addr}{o:HO}
theorem fR.lt(x:fR P w H h a o):a < h.objs.size:=by
 cases o with
 | lst xs=>obtain⟨_,_,_,_,e⟩:=x; exact av e
 | tup xs=>obtain⟨_,_,_,p⟩:=x; exact p.lt
 | dK kvs=>obtain⟨_,_,_,_,o,_,_,e,_⟩:=x; exact av e
 | dT kvs=>obtain⟨_,_,_,_,o,_,_,e,_⟩:=x; exact av e
 | set S n=>obtain⟨o,_,_,_,e,_⟩:=x; exact av e
 | ins C dx fs=>obtain⟨_,_,_,e,_⟩:=x; exact av e
 | own y=>obtain⟨_,e⟩:=x; exact av e
 | xd fs=>obtain⟨_,⟨_,_,_,e,_⟩,_⟩:=x; exact av e
 | rng lo hi=>obtain⟨_,_,_,e⟩:=x; exact av e
 | frz ob u=>obtain⟨e,_⟩:=x; exact av e
 | tbl ps=>exact av (show h.get? a=some _ from x)
 | met f y=>exact av (show h.get? a=some _ from x)
 | ext φ=>obtain⟨_,⟨_,e⟩,_⟩:=x; exact av e
theorem Paired.mapP{α β:Type}{F G:α->β->Prop}: ∀{l₁:List α} {l₂:List β},Paired F l₁ l₂->(∀a b,F a b->G a b)->Paired G l₁ l₂
 | _,_, .nil,_=> .nil
 | _,_, .cons r t,f=> .cons (f _ _ r) (Paired.mapP t f)
theorem fR.stay(x:fR P w H h a o)(k: ∀b u,(b=a\/H b=some (.own a))->h.get? b=some u->h'.get? b=some u)
  (ho: ∀b,H b=some (.own a)->H' b=some (.own a))(ht: ∀b xs,H b=some (.tup xs)->H' b=some (.tup xs)):fR P w H' h' a o:=by
 induction o with
 | lst xs=>obtain⟨z,its,n,r,e⟩:=x; exact⟨z,its,n,r,k _ _ (.inl rfl) e⟩
 | tup xs=>obtain⟨z,its,r,ob,e,c⟩:=x; exact⟨z,its,r,ob,k _ _ (.inl rfl) e,c⟩
 | dK kvs=>obtain⟨z,y,vs,r,ob,es,ep,e,c⟩:=x; exact⟨z,y,vs,r,ob,es,ep,k _ _ (.inl rfl) e,c⟩
 | dT kvs=>
  obtain⟨z,y,xs,r,ob,es,ep,e,c⟩:=x
  exact⟨z,y,xs,Paired.mapP r fun p q z=>⟨z.1,ht _ _ z.2.1,z.2.2⟩,ob,es,ep,k _ _ (.inl rfl) e,c⟩
 | set S n=>obtain⟨ob,es,ep,t,e,c⟩:=x; exact⟨ob,es,ep,t,k _ _ (.inl rfl) e,c⟩
 | ins C dx fs=>
  obtain⟨d,z,ne,e,mA,⟨od,es,ep,e2,c⟩,r⟩:=x
  exact⟨ho _ d,z,ne,k _ _ (.inl rfl) e,mA,⟨od,es,ep,k _ _ (.inr d) e2,c⟩,r⟩
 | own y=>obtain⟨ob,e⟩:=x; exact⟨ob,k _ _ (.inl rfl) e⟩
 | xd fs=>obtain⟨mA,⟨od,es,ep,e,c⟩,r⟩:=x; exact⟨mA,⟨od,es,ep,k _ _ (.inl rfl) e,c⟩,r⟩
 | rng lo hi=>obtain⟨t,u,v,e⟩:=x; exact⟨t,u,v,k _ _ (.inl rfl) e⟩
 | frz ob u ih=>obtain⟨e,q⟩:=x; exact⟨k _ _ (.inl rfl) e,ih q⟩
 | tbl ps=>
  have e:h.get? a=some {cls:= .none,data:= .fields ps}:=x
  show h'.get? a=some {cls:= .none,data:= .fields ps}
  exact k a _ (.inl rfl) e
 | met f y=>
  have e:h.get? a=some (IT (.ref f) (.ref y)):=x
  show h'.get? a=some (IT (.ref f) (.ref y))
  exact k a _ (.inl rfl) e
 | ext φ=>obtain⟨p,⟨o,e⟩,st⟩:=x; exact⟨st _ _ p fun o q=>k _ _ (.inl rfl) q,⟨o,k _ _ (.inl rfl) e⟩,st⟩
theorem pG.lt(x:pG P w H h)(e:H a=some o):a < h.objs.size:=(x a o e).lt
theorem pG.fresh(x:pG P w H h)(e:h.objs.size<=a):H a=none:=by
 cases q:H a with
 | none=>rfl
 | some u=>exact absurd (bf (x.lt q) e) (dz _)
theorem pG.kept(x:pG P w H h)(k: ∀b u,h.get? b=some u->h'.get? b=some u):pG P w H h':=fun a o e=>
 (x a o e).stay (fun b u _ q=>k b u q) (fun _ q=>q) fun _ _ q=>q
theorem pG.laid(x:pG P w H h)(k: ∀b u,h.get? b=some u->h'.get? b=some u)(hp:h.objs.size<=a)(new:fR P w (upd H a o) h' a o):pG P w (upd H a o) h':=fun b u e=>by
 have hn:=x.fresh hp
 by_cases hb:b=a
 ·subst hb; rw [bO]at e; cases e; exact new
 ·rw [cD hb]at e
  exact(x b u e).stay (fun c v _ q=>k c v q) (fun c q=>by rw [cD (gc q hn)]; exact q) fun c xs q=>by rw [cD (gc q hn)]; exact q
end
def Rd(H:Hp)(a:Addr)(u:HO):Prop:=H a=some u\/ ∃o,H a=some (.frz o u)
theorem Rd.ok{P:aq}{w:World}{H:Hp}{h:Heap}{a:Addr}{u:HO}(r:Rd H a u)(x:pG P w H h):fR P w H h a u:=by
 rcases r with r | ⟨o,r⟩
 ·exact x a u r
 ·obtain⟨_,q⟩:=x a _ r
  exact q
def Oa:Option HO->Prop
 | some (.lst _)=>True
 | some (.dK _)=>True
 | some (.dT _)=>True
 | some (.set _ _)=>True
 | some (.ins _ _ _)=>True
 | some (.ext _)=>True
 | _=>False
section
variable {P:aq}{w:World}{H:Hp}{h h':Heap}{x e:Addr}{o':HO}
theorem pG.write(ok:pG P w H h)(mu:Oa (H x))(he:e=x\/H e=some (.own x))(k: ∀b u,b≠e->h.get? b=some u->h'.get? b=some u)(heo: ∃u,h'.get? e=some u)
  (new:fR P w (upd H x o') h' x o'):pG P w (upd H x o') h':=fun b u q=>by
 have nown: ∀c y,H c=some (.own y)->c≠x:=fun c y r z=>by subst z; rw [r]at mu; exact mu
 have ntup: ∀c xs,H c=some (.tup xs)->c≠x:=fun c xs r z=>by subst z; rw [r]at mu; exact mu
 by_cases hb:b=x
 ·subst hb; rw [bO]at q; cases q; exact new
 ·rw [cD hb]at q
  by_cases hbe:b=e
  ·have q':H b=some (.own x):=by
    rcases he with z | z
    ·exact absurd (hbe.trans z) hb
    ·rw [hbe]; exact z
   rw [q]at q'; cases q'
   obtain⟨v,hv⟩:=heo
   exact⟨v,by rw [hbe]; exact hv⟩
  ·refine(ok b u q).stay (fun c v hc r=>k c v ?_ r) (fun c r=>by rw [cD (nown c b r)]; exact r) fun c xs r=>by rw [cD (ntup c xs r)]; exact r
   rcases hc with rfl | hc
   ·exact hbe
   ·rintro rfl
    rcases he with z | z
    ·exact nown c b hc z
    ·rw [hc]at z; cases z; exact hb rfl
end
structure Un(fs ex:List Addr)(H H':Hp)(h h':Heap):Prop where
 keep: ∀b o,h.get? b=some o->H b=none->b∉fs->b∉ex->h'.get? b=some o
 slot: ∀b o,h.get? b=some o->H b=none->b∈fs->b∉ex-> ∃sl,h'.get? b=some {o with slots:=sl}
 free: ∀b o,h.get? b=some o->H b=none->b∉ex->H' b=none
 there: ∀b o,h.get? b=some o->b∉ex-> ∃o',h'.get? b=some o'
 uL: ∀b xs,H b=some (.tup xs)->H' b=some (.tup xs)
 sN: ∀b o u,H b=some (.frz o u)->H' b=some (.frz o u)
 tU: ∀b ps,H b=some (.tbl ps)-> ∃more,H' b=some (.tbl (ps ++ more))
section
variable {fs fs' ex ex':List Addr}{H H1 H2:Hp}{h h1 h2 h':Heap}{a x e:Addr}{o:HO}
theorem Un.any(u:Un fs ex H H1 h h1){b:Addr}{ob:Obj}(q:h.get? b=some ob)(n:H b=none)(hx:b∉ex): ∃sl,h1.get? b=some {ob with slots:=sl}:=by
 by_cases hb:b∈fs
 ·exact u.slot b ob q n hb hx
 ·exact⟨ob.slots,u.keep b ob q n hb hx⟩
theorem Un.kept(k: ∀b u,h.get? b=some u->h'.get? b=some u):Un fs ex H H h h':=
 ⟨fun b ob q _ _ _=>k b ob q,fun b ob q _ _ _=>⟨ob.slots,k b ob q⟩,fun _ _ _ n _=>n,fun b ob q _=>⟨ob,k b ob q⟩,fun _ _ q=>q,fun _ _ _ q=>q,fun _ ps q=>⟨#[],by rw [q]; simp⟩⟩
theorem Un.refl:Un fs ex H H h h:=Un.kept fun _ _ q=>q
theorem Un.laid(k: ∀b u,h.get? b=some u->h'.get? b=some u)(hp:h.objs.size<=a)(hn:H a=none):Un fs ex H (upd H a o) h h' where
 keep:=fun b u q _ _ _=>k b u q
 slot:=fun b u q _ _ _=>⟨u.slots,k b u q⟩
 free:=fun b u q n _=>by rw [cD (aJ (bf (av q) hp))]; exact n
 there:=fun b u q _=>⟨u,k b u q⟩
 uL:=fun b xs q=>by rw [cD (gc q hn)]; exact q
 sN:=fun b u xs q=>by rw [cD (gc q hn)]; exact q
 tU:=fun b ps q=>⟨#[],by rw [cD (gc q hn),q]; simp⟩
theorem Un.write(mu:Oa (H x))(he:e=x\/H e=some (.own x))(k: ∀b u,b≠e->h.get? b=some u->h'.get? b=some u)(heo: ∃u,h'.get? e=some u):Un fs ex H (upd H x o) h h':=by
 have hx: ∀b,H b=none->b≠x:=fun b n z=>by subst z; rw [n]at mu; exact mu
 have hb: ∀b,H b=none->b≠e:=fun b n z=>by
  subst z
  rcases he with r | r
  ·exact hx b n r
  ·rw [n]at r; cases r
 have hm: ∀b u,H b=some u-> ¬Oa (some u)->b≠x:=fun b u q nm z=>by subst z; rw [q]at mu; exact nm mu
 refine⟨fun b u q n _ _=>k b u (hb b n) q,fun b u q n _ _=>⟨u.slots,k b u (hb b n) q⟩,fun b u q n _=>by rw [cD (hx b n)]; exact n,fun b u q _=> ?_,
  fun b xs q=>by rw [cD (hm b _ q fun z=>z)]; exact q,fun b u xs q=>by rw [cD (hm b _ q fun z=>z)]; exact q,fun b ps q=>⟨#[],by rw [cD (hm b _ q fun z=>z),q]; simp⟩⟩
 by_cases hbe:b=e
 ·subst hbe; exact heo
 ·exact⟨u,k b u hbe q⟩
end
def N8(h:Heap)(H:Hp):List Addr:=(bH h.objs.size).filter fun a=>(H a).isSome
def xw(h:Heap)(H:Hp):Heap:=PySem.W.hideAll h (N8 h H)
theorem Dh(h:Heap)(H:Hp):(xw h H).objs.size=h.objs.size:=PySem.W.hideAll_size _ _
theorem FZ{h:Heap}{H:Hp}{b:Addr}{o:Obj}(e:h.get? b=some o)(n:H b=none):(xw h H).get? b=some o:=
 PySem.W.hideAll_get _ e fun hm=>by
  have q:(H b).isSome=true:=(o7.mp hm).2
  rw [n]at q; simp at q
theorem Kb{h:Heap}{H:Hp}{b:Addr}{o:Obj}(e:(xw h H).get? b=some o):h.get? b=some o/\H b=none:=by
 have e':h.get? b=some o:=PySem.W.of_hideAll (N8 h H) e
 refine⟨e', ?_⟩
 cases q:H b with
 | none=>rfl
 | some x=>
  have hm:b∈N8 h H:=o7.mpr ⟨gw.mpr (av e'),by simp [q]⟩
  have z:(xw h H).get? b=none:=PySem.W.hideAll_none (N8 h H) hm
  rw [z]at e; cases e
def Jl(g h:Heap)(L:Addr):List (Addr×Obj):=(bH h.objs.size).filterMap fun a=>if a=L\/(g.get? a).isSome=true then none else(h.get? a).map fun o=>(a,o)
def rest(g h:Heap)(L d:Addr):List (Addr×Obj):=(Jl g h L).filter fun p=>decide (p.1≠d)
end L2
namespace L2
open PySem PySem.Spec PyProof.Rows
structure Mod(K:aT)(mg:Str->Option Value)(base:Heap):Prop where
 wR:K.In base
 glob:base.Ns ax mg
 blt: ∃mb,base.Ns builtinsNs mb/\ ∀x:Str,x≠"__name__"->mb x=dE x
 nolimit:base.NoLimit
structure Cx where
 prog:aq
 w:World
 K:aT
 mg:Str->Option Value
 base:Heap
 A:bA
 N:List Str
 s₀:ai
 H₀:Hp
 env:Env
 outer:List Env
 stack:List Env
 ex:List Addr
 fn:Str->Bool
 calm:Bool
 pn:List (Addr×Obj)
 xe:Value->ai->Prop
def uW(l:List Env):List Addr:=l.filterMap (·.frame)
abbrev Cx.fs(X:Cx):List Addr:=uW X.outer
def y7(sc:Scope)(x:Str):Prop:=sc.names.lookup x=some .local\/sc.names.lookup x=some .cell\/sc.names.lookup x=some .free
def Loc(sc:Scope)(x:Str):Prop:=sc.names.lookup x=some .local\/sc.names.lookup x=some .cell
def Look(env:Env)(h:Heap)(m:Str->Option Value)(x:Str)(u:Value):Prop:=
 (env.kindOf x=some .local/\m x=some u)\/((env.kindOf x=some .cell\/env.kindOf x=some .free)/\ ∃c,env.cells.lookup x=some c/\h.IsCell c (some u))
structure Cx.Ok(X:Cx):Prop where
 mod:Mod X.K X.mg X.base
 kind:X.env.scope.kind= .function
 glob:X.env.globals=ax
 blt:X.env.builtins=builtinsNs
 above:X.s₀.heap.objs.size<=X.env.locals
 inj: ∀x y c,X.env.cells.lookup x=some c->X.env.cells.lookup y=some c->x=y
 has: ∀x,(X.env.kindOf x=some .cell\/X.env.kindOf x=some .free)-> ∃c,X.env.cells.lookup x=some c
 Fb: ∀x c,X.fn x=true->X.env.cells.lookup x=some c->X.s₀.heap.objs.size<=c
 hd:X.calm=true->X.A.handled=none
 frames:X.A.frames=some X.stack
 sF:X.stack=X.outer\/(X.stack=X.env::X.outer/\X.env.frame=some X.env.locals)
 J7: ∀b∈X.ex,b≠X.env.locals/\ ∀x c,X.env.cells.lookup x=some c->c≠b
 bs: ∀b o,X.base.get? b=some o->X.s₀.heap.get? b=some o/\X.H₀ b=none
 yH:X.base.objs.size<=X.s₀.heap.objs.size
 rM: ∀b o,X.base.get? b=some o->b∉X.ex
 uw: ∀b∈X.ex,b∉X.fs
 mr:X.s₀.heap.FunFrames X.base X.outer
 AY: ∀b∈X.fs,X.H₀ b=none
structure Inv(X:Cx)(pins:List (Addr×Obj))(σ:List (Option V))(H:Hp)(s:ai):Prop where
 ok:X.Ok
 os:s.os=X.s₀.os
 bare:mR s.gens
 base:Un X.fs X.ex X.H₀ H X.s₀.heap s.heap
 loc: ∃m,s.heap.Ns X.env.locals m/\ ∀(i:Nat) (x:Str) (v:V),X.N[i]? =some x->σ[i]? =some (some v)->y7 X.env.scope x-> ∃u,RelV v u/\Look X.env s.heap m x u
 cell: ∀x c,X.env.cells.lookup x=some c-> ∃v,s.heap.IsCell c v
 free:H X.env.locals=none
 i0: ∀x c,X.env.cells.lookup x=some c->H c=none
 pin: ∀p∈X.pn ++ pins,s.heap.get? p.1=some p.2/\H p.1=none/\p.1≠X.env.locals/\p.1∉X.fs/\ ∀v,p.2.data≠ .cell v
 eI:pG X.prog X.w H s.heap
 len:σ.length=X.N.length
section
variable {X:Cx}{pins:List (Addr×Obj)}{σ:List (Option V)}{H H':Hp}{s:ai}{h':Heap}
theorem Cx.Ok.nofr(ok:X.Ok){b:Addr}{o:Obj}(e:X.base.get? b=some o):b∉X.fs:=fun hb=>by
 have:=(ok.mr.mem hb).1
 rw [e]at this; cases this
theorem Inv.bs(I:Inv X pins σ H s): ∀b o,X.base.get? b=some o->s.heap.get? b=some o/\H b=none:=fun b o e=>
 ⟨I.base.keep b o (I.ok.bs b o e).1 (I.ok.bs b o e).2 (I.ok.nofr e) (I.ok.rM b o e),I.base.free b o (I.ok.bs b o e).1 (I.ok.bs b o e).2 (I.ok.rM b o e)⟩
theorem Inv.bk(I:Inv X pins σ H s): ∀b o,X.base.get? b=some o->s.heap.get? b=some o:=fun b o e=>(I.bs b o e).1
theorem Inv.mod(I:Inv X pins σ H s):Mod X.K X.mg X.base:=I.ok.mod
theorem Inv.kIn(I:Inv X pins σ H s):X.K.In s.heap:=I.ok.mod.wR.keeps I.bk
theorem Inv.lt(I:Inv X pins σ H s):X.env.locals < s.heap.objs.size:=let⟨_,hn,_⟩:=I.loc; hn.lt
theorem Inv.sz(I:Inv X pins σ H s):X.s₀.heap.objs.size<=s.heap.objs.size:=bE I.ok.above (jy I.lt)
theorem Inv.nofs(I:Inv X pins σ H s){a:Addr}(h:s.heap.objs.size<=a):a∉X.fs:=fun hb=>by
 obtain⟨_,o,ho,_⟩:=I.ok.mr.mem hb
 exact absurd (bf (av ho) (bE I.sz h)) (dz _)
theorem Inv.cne(I:Inv X pins σ H s): ∀x c,X.env.cells.lookup x=some c->c≠X.env.locals:=fun x c e z=>by
 obtain⟨v,o,ho,hd⟩:=I.cell x c e
 obtain⟨m,⟨o',es,ep,ho',hd',_⟩,_⟩:=I.loc
 rw [z,ho']at ho; cases ho; rw [hd']at hd; cases hd
theorem Inv.mr(I:Inv X pins σ H s):s.heap.FunFrames X.base X.outer:=by
 have all: ∀(l:List Env),(∀b∈uW l,b∈X.fs)->X.s₀.heap.FunFrames X.base l->s.heap.FunFrames X.base l:=by
  intro l
  induction l with
  | nil=>intro _ _; trivial
  | cons env r ih=>
   intro hs hl
   obtain⟨hk,⟨L,o,hf,hn,ho,hd⟩,hr⟩:=hl
   have hL:L∈X.fs:=hs L (by unfold uW; rw [kP,hf]; exact ck)
   obtain⟨sl,e⟩:=I.base.slot L o ho (I.ok.AY L hL) hL fun z=>I.ok.uw L z hL
   exact⟨hk,⟨L,_,hf,hn,e,hd⟩,ih (fun b hb=>hs b (by unfold uW; rw [kP,hf]; exact cA _ hb)) hr⟩
 exact all X.outer (fun _ hb=>hb) I.ok.mr
theorem Inv.stack(I:Inv X pins σ H s):s.heap.FunFrames X.base X.stack:=by
 rcases I.ok.sF with e | ⟨e,hf⟩
 ·rw [e]; exact I.mr
 ·rw [e]
  obtain⟨m,hn,_⟩:=I.loc
  refine .cons (by rw [I.ok.kind]; decide) hf hn ?_ I.mr
  exact qo (bE I.ok.yH I.ok.above)
theorem Inv.stkSub(I:Inv X pins σ H s): ∀b∈uW X.stack,b∈X.env.locals::X.fs:=fun b hb=>by
 rcases I.ok.sF with e | ⟨e,hf⟩
 ·rw [e]at hb; exact cA _ hb
 ·rw [e]at hb
  unfold uW at hb
  rw [kP,hf]at hb
  exact hb
theorem Inv.stkFree(I:Inv X pins σ H s): ∀b∈uW X.stack,H b=none:=fun b hb=>by
 rcases aO.mp (I.stkSub b hb)with e | hb
 ·rw [e]; exact I.free
 ·obtain⟨_,o,ho,_⟩:=I.ok.mr.mem hb
  exact I.base.free b o ho (I.ok.AY b hb) fun z=>I.ok.uw b z hb
theorem Inv.step{g':Array yu}{t':Nat}{d':Drawn}{ch:List Addr}(I:Inv X pins σ H s)
  (hch: ∀b∈ch,(b∈X.ex\/X.s₀.heap.objs.size<=b)/\b≠X.env.locals/\(∀x c,X.env.cells.lookup x=some c->c≠b)/\ ∀p∈X.pn ++ pins,p.1≠b)
  (keep: ∀b o,b≠X.env.locals->b∉X.fs->b∉ch->s.heap.get? b=some o->H b=none->h'.get? b=some o)
  (slot: ∀b o,b≠X.env.locals->b∈X.fs->b∉ch->s.heap.get? b=some o->H b=none-> ∃sl,h'.get? b=some {o with slots:=sl})(free: ∀b o,b∉ch->s.heap.get? b=some o->H b=none->H' b=none)
  (there: ∀b o,b∉ch->s.heap.get? b=some o-> ∃o',h'.get? b=some o')
  (uL: ∀b xs,H b=some (.tup xs)->H' b=some (.tup xs))(sN: ∀b o u,H b=some (.frz o u)->H' b=some (.frz o u))(tU: ∀b ps,H b=some (.tbl ps)-> ∃more,H' b=some (.tbl (ps ++ more)))
  (ns: ∀m,s.heap.Ns X.env.locals m->h'.Ns X.env.locals m)(eI:pG X.prog X.w H' h')(hg:mR g'):
  Inv X pins σ H' {s with heap:=h',gens:=g',drawn:=d',toks:=t'}:=by
 have neL: ∀b o,X.s₀.heap.get? b=some o->b≠X.env.locals:=fun b o e=>aJ (bf (av e) I.ok.above)
 have neC: ∀b o,X.s₀.heap.get? b=some o->b∉X.ex->b∉ch:=fun b o e hx hb=>by
  rcases(hch b hb).1 with z | z
  ·exact hx z
  ·exact absurd (bf (av e) z) (dz _)
 have cellK: ∀x c,X.env.cells.lookup x=some c-> ∀v,s.heap.IsCell c v->h'.IsCell c v:=fun x c e v ⟨o,ho,hd⟩=>by
  have nch:c∉ch:=fun z=>(hch c z).2.2.1 x c e rfl
  by_cases hc:c∈X.fs
  ·obtain⟨sl,q⟩:=slot c o (I.cne x c e) hc nch ho (I.i0 x c e)
   exact⟨_,q,hd⟩
  ·exact⟨o,keep c o (I.cne x c e) hc nch ho (I.i0 x c e),hd⟩
 refine⟨I.ok,I.os,hg,⟨fun b o e n hb hx=> ?_,fun b o e n hb hx=> ?_,fun b o e n hx=> ?_,fun b o e hx=> ?_,fun b xs e=>uL b xs (I.base.uL b xs e),fun b o xs e=>sN b o xs (I.base.sN b o xs e),fun b ps e=> ?_⟩, ?_,fun x c e=> ?_, ?_,fun x c e=> ?_,fun p hp=> ?_,eI,I.len⟩
 ·exact keep b o (neL b o e) hb (neC b o e hx) (I.base.keep b o e n hb hx) (I.base.free b o e n hx)
 ·obtain⟨sl,e1⟩:=I.base.slot b o e n hb hx
  obtain⟨sl',e2⟩:=slot b _ (neL b o e) hb (neC b o e hx) e1 (I.base.free b o e n hx)
  exact⟨sl',e2⟩
 ·obtain⟨o',e1⟩:=I.base.there b o e hx
  exact free b o' (neC b o e hx) e1 (I.base.free b o e n hx)
 ·obtain⟨o',e1⟩:=I.base.there b o e hx
  exact there b o' (neC b o e hx) e1
 ·obtain⟨m1,e1⟩:=I.base.tU b ps e
  obtain⟨m2,e2⟩:=tU b _ e1
  exact⟨m1 ++ m2,by rw [e2,Array.append_assoc]⟩
 ·obtain⟨m,hn,hl⟩:=I.loc
  refine⟨m,ns m hn,fun i x v e1 e2 e3=> ?_⟩
  obtain⟨u,r,l⟩:=hl i x v e1 e2 e3
  refine⟨u,r, ?_⟩
  rcases l with l | ⟨k,c,e,z⟩
  ·exact .inl l
  ·exact .inr ⟨k,c,e,cellK x c e _ z⟩
 ·obtain⟨v,z⟩:=I.cell x c e
  exact⟨v,cellK x c e v z⟩
 ·obtain⟨m,⟨o,_,_,ho,_⟩,_⟩:=I.loc
  exact free _ o (fun z=>(hch _ z).2.1 rfl) ho I.free
 ·obtain⟨v,o,ho,hd⟩:=I.cell x c e
  exact free c o (fun z=>(hch c z).2.2.1 x c e rfl) ho (I.i0 x c e)
 ·obtain⟨e,n,ne,nf,d⟩:=I.pin p hp
  have nch:p.1∉ch:=fun z=>(hch p.1 z).2.2.2 p hp rfl
  exact⟨keep p.1 p.2 ne nf nch e n,free p.1 p.2 nch e n,ne,nf,d⟩
theorem Inv.un{t':Nat}(I:Inv X pins σ H s)(u:Un X.fs [] H H' s.heap h')(eI:pG X.prog X.w H' h'):Inv X pins σ H' {s with heap:=h',toks:=t'}:=by
 obtain⟨m,⟨o,es,ep,ho,r⟩,_⟩:=id I.loc
 obtain⟨sl,hL⟩:=u.any ho I.free (by simp)
 exact I.step (g':=s.gens) (d':=s.drawn) (ch:= []) (fun _ z=>nomatch z) (fun b o _ hb _ e n=>u.keep b o e n hb (by simp)) (fun b o _ hb _ e n=>u.slot b o e n hb (by simp)) (fun b o _ e n=>u.free b o e n (by simp)) (fun b o _ e=>u.there b o e (by simp)) u.uL u.sN u.tU (fun m' hm=>by
  obtain⟨o',es',ep',ho',r'⟩:=hm
  rw [ho]at ho'; cases ho'
  exact⟨_,es',ep',hL,r'⟩) eI I.bare
theorem Inv.call{g':Array yu}{t':Nat}{d':Drawn}{ch:List Addr}(I:Inv X pins σ H s)(u:Un (uW X.stack) ch H H' s.heap h')(eI:pG X.prog X.w H' h')(hg:mR g')
  (hch: ∀b∈ch,(b∈X.ex\/X.s₀.heap.objs.size<=b)/\b≠X.env.locals/\(∀x c,X.env.cells.lookup x=some c->c≠b)/\ ∀p∈X.pn ++ pins,p.1≠b):
  Inv X pins σ H' {s with heap:=h',gens:=g',drawn:=d',toks:=t'}:=by
 obtain⟨m,⟨o,es,ep,ho,r⟩,_⟩:=id I.loc
 obtain⟨sl,hL⟩:=u.any ho I.free fun z=>(hch _ z).2.1 rfl
 exact I.step (ch:=ch) hch (fun b o hL hb hc e n=>u.keep b o e n (fun z=>(aO.mp (I.stkSub b z)).elim hL hb) hc) (fun b o _ _ hc e n=>u.any e n hc) (fun b o hc e n=>u.free b o e n hc) (fun b o hc e=>u.there b o e hc) u.uL u.sN u.tU (fun m' hm=>by
  obtain⟨o',es',ep',ho',r'⟩:=hm
  rw [ho]at ho'; cases ho'
  exact⟨_,es',ep',hL,r'⟩) eI hg
theorem Inv.turned{t':Nat}{it:Addr}(I:Inv X pins σ H s)(k: ∀b o,b≠it->s.heap.get? b=some o->h'.get? b=some o)(hn:H it=none)(hL:it≠X.env.locals)
  (h1:it∈X.ex\/X.s₀.heap.objs.size<=it)(h2: ∀x c,X.env.cells.lookup x=some c->c≠it)(h3: ∀p∈X.pn ++ pins,p.1≠it):Inv X pins σ H {s with heap:=h',toks:=t'}:=by
 have nit: ∀b u,H b=some u->b≠it:=fun b u e z=>by rw [z,hn]at e; cases e
 refine I.step (g':=s.gens) (d':=s.drawn) (ch:= [it]) (fun b hb=> ?_) (fun b o _ _ hc e _=>k b o (fun z=>hc (by simp [z])) e) (fun b o _ _ hc e _=>⟨o.slots,k b o (fun z=>hc (by simp [z])) e⟩) (fun _ _ _ _ n=>n)
  (fun b o hc e=>⟨o,k b o (fun z=>hc (by simp [z])) e⟩) (fun _ _ e=>e) (fun _ _ _ e=>e) (fun b ps e=>⟨#[],by rw [e]; simp⟩) (fun m hm=> ?_) (fun b u e=> ?_) I.bare
 ·have e:b=it:=by simpa using hb
  subst e
  exact⟨h1,hL,h2,h3⟩
 ·obtain⟨o,es,ep,ho,r⟩:=hm
  exact⟨o,es,ep,k _ o (sQ hL) ho,r⟩
 ·refine(I.eI b u e).stay (fun c v hc q=>k c v ?_ q) (fun _ q=>q) fun _ _ q=>q
  rcases hc with z | z
  ·rw [z]; exact nit b u e
  ·exact nit c _ z
theorem Inv.tok(I:Inv X pins σ H s)(t:Nat):Inv X pins σ H {s with toks:=t}:=I.un (h':=s.heap) (t':=t) Un.refl I.eI
theorem Inv.kept{t':Nat}(I:Inv X pins σ H s)(k: ∀b u,s.heap.get? b=some u->h'.get? b=some u):Inv X pins σ H {s with heap:=h',toks:=t'}:=I.un (Un.kept k) (I.eI.kept k)
theorem Inv.laid{a:Addr}{o:HO}{t':Nat}(I:Inv X pins σ H s)(k: ∀b u,s.heap.get? b=some u->h'.get? b=some u)(hp:s.heap.objs.size<=a)(new:fR X.prog X.w (upd H a o) h' a o):
  Inv X pins σ (upd H a o) {s with heap:=h',toks:=t'}:=I.un (Un.laid k hp (I.eI.fresh hp)) (I.eI.laid k hp new)
theorem Inv.write{x e:Addr}{o:HO}{t':Nat}(I:Inv X pins σ H s)(mu:Oa (H x))(he:e=x\/H e=some (.own x))(k: ∀b u,b≠e->s.heap.get? b=some u->h'.get? b=some u)(heo: ∃u,h'.get? e=some u)
  (new:fR X.prog X.w (upd H x o) h' x o):Inv X pins σ (upd H x o) {s with heap:=h',toks:=t'}:=I.un (Un.write mu he k heo) (I.eI.write mu he k heo new)
theorem Inv.pins_of{pins':List (Addr×Obj)}(I:Inv X pins σ H s)(h: ∀p∈pins',s.heap.get? p.1=some p.2/\H p.1=none/\p.1≠X.env.locals/\p.1∉X.fs/\ ∀v,p.2.data≠ .cell v):Inv X pins' σ H s:=
 ⟨I.ok,I.os,I.bare,I.base,I.loc,I.cell,I.free,I.i0,fun p hp=>(bP.mp hp).elim (fun z=>I.pin p (dO _ z)) (h p),I.eI,I.len⟩
theorem uz{N:List Str}(hN:N.Nodup){i j:Nat}{x:Str}(a:N[i]? =some x)(b:N[j]? =some x):i=j:=by
 obtain⟨h1,e1⟩:=aI.mp a
 obtain⟨h2,e2⟩:=aI.mp b
 exact(iE hN).mp (e1.trans e2.symm)
theorem rK{M:Model}{A:bA}{E:Value->ai->Prop}{i:Nat}{x:Str}{v:V}{u:Value}{Q:Unit->ai->Prop}(I:Inv X pins σ H s)(hN:X.N.Nodup)(hi:X.N[i]? =some x)(hx:Loc X.env.scope x)(r:RelV v u)
  (h: ∀s',Inv X pins (σ.set i (some v)) H s'->(∃a,bR a s.heap s'.heap/\(a=X.env.locals\/X.env.cells.lookup x=some a))->Q () s')(hf:X.fn x=true\/X.env.scope.names.lookup x=some .local:=by first | exact .inl rfl | exact .inr rfl | assumption):wpAny M A (storeName X.env x u) Q E s:=by
 obtain⟨m,hn,hl⟩:=id I.loc
 have hcls:(X.env.scope.kind== .class || (X.env.scope.kind== .module&&X.env.locals !=X.env.globals))=false:=by rw [I.ok.kind]; rfl
 have hiσ:i < σ.length:=by rw [I.len]; exact(aI.mp hi).1
 have cne:=I.cne
 have tracked: ∀{a:Addr} {h':Heap},(∃o,s.heap.get? a=some o/\H a=none)->bR a s.heap h'->pG X.prog X.w H h':=fun{a h'} ha hs b ob e=>by
  obtain⟨_,_,hfree⟩:=ha
  refine(I.eI b ob e).stay (fun c w' hc q=>(hs.2 c ?_).trans q) (fun _ q=>q) fun _ _ q=>q
  rintro rfl
  rcases hc with rfl | hc
  ·rw [hfree]at e; cases e
  ·rw [hfree]at hc; cases hc
 rcases hx with hk | hk
 ·refine wpAny_storeName_local hk hn (fun h' hn' hs=> ?_) hcls
  obtain⟨oL,_,_,hoL,_⟩:=id hn
  refine h _ ⟨I.ok,I.os,I.bare,⟨fun b o e n hb hx=> ?_,fun b o e n hb hx=> ?_,I.base.free,fun b o e hx=> ?_,I.base.uL,I.base.sN,I.base.tU⟩,⟨_,hn',fun j y v' e1 e2 e3=> ?_⟩,fun y c e=> ?_,I.free,I.i0,fun p hp=> ?_,tracked ⟨oL,hoL,I.free⟩ hs,by simpa using I.len⟩ ⟨_,hs, .inl rfl⟩
  ·exact(hs.2 b (aJ (bf (av e) I.ok.above))).trans (I.base.keep b o e n hb hx)
  ·obtain⟨sl,e1⟩:=I.base.slot b o e n hb hx
   exact⟨sl,(hs.2 b (aJ (bf (av e) I.ok.above))).trans e1⟩
  ·obtain⟨o',e1⟩:=I.base.there b o e hx
   exact⟨o',(hs.2 b (aJ (bf (av e) I.ok.above))).trans e1⟩
  ·by_cases hj:j=i
   ·subst hj
    rw [hi]at e1; cases e1
    rw [BA hiσ]at e2
    cases e2
    exact⟨u,r, .inl ⟨hk,by simp⟩⟩
   ·rw [EV (sQ hj)]at e2
    obtain⟨u',r',q⟩:=hl j y v' e1 e2 e3
    refine⟨u',r', ?_⟩
    rcases q with⟨k,e⟩ | ⟨k,c,e,z⟩
    ·refine .inl ⟨k, ?_⟩
     have:y≠x:=fun e=>hj (uz hN e1 (e▸hi))
     simp [this,e]
    ·exact .inr ⟨k,c,e,z.sameBut hs (cne y c e)⟩
  ·obtain⟨w',z⟩:=I.cell y c e
   exact⟨w',z.sameBut hs (cne y c e)⟩
  ·obtain⟨e,n,ne,nf,d⟩:=I.pin p hp
   exact⟨(hs.2 p.1 ne).trans e,n,ne,nf,d⟩
 ·have hfn:X.fn x=true:=by
   rcases hf with z | z
   ·exact z
   ·rw [z]at hk; cases hk
  obtain⟨c,hc⟩:=I.ok.has x (.inl hk)
  obtain⟨w',z⟩:=I.cell x c hc
  refine wpAny_storeName_cell I.ok.kind hk hc z (fun h' hc' hs=> ?_)
  obtain⟨oc,hoc,hocd⟩:=id z
  refine h {s with heap:=h'} ⟨I.ok,I.os,I.bare,⟨fun b o e n hb hx=> ?_,fun b o e n hb hx=> ?_,I.base.free,fun b o e hx=> ?_,I.base.uL,I.base.sN,I.base.tU⟩,⟨m,hn.sameBut hs (sQ (cne x c hc)),fun j y v' e1 e2 e3=> ?_⟩,fun y c' e=> ?_,I.free,I.i0,fun p hp=> ?_,tracked ⟨oc,hoc,I.i0 x c hc⟩ hs,by simpa using I.len⟩ ⟨c,hs, .inr hc⟩
  ·exact(hs.2 b (aJ (bf (av e) (I.ok.Fb x c hfn hc)))).trans (I.base.keep b o e n hb hx)
  ·obtain⟨sl,e1⟩:=I.base.slot b o e n hb hx
   exact⟨sl,(hs.2 b (aJ (bf (av e) (I.ok.Fb x c hfn hc)))).trans e1⟩
  ·obtain⟨o',e1⟩:=I.base.there b o e hx
   exact⟨o',(hs.2 b (aJ (bf (av e) (I.ok.Fb x c hfn hc)))).trans e1⟩
  ·by_cases hj:j=i
   ·subst hj
    rw [hi]at e1; cases e1
    rw [BA hiσ]at e2
    cases e2
    exact⟨u,r, .inr ⟨.inl hk,c,hc,hc'⟩⟩
   ·rw [EV (sQ hj)]at e2
    obtain⟨u',r',q⟩:=hl j y v' e1 e2 e3
    refine⟨u',r', ?_⟩
    rcases q with q | ⟨k,c',e,z'⟩
    ·exact .inl q
    ·refine .inr ⟨k,c',e,z'.sameBut hs ?_⟩
     rintro rfl
     exact hj (uz hN e1 (I.ok.inj _ _ _ e hc▸hi))
  ·by_cases hcc:c'=c
   ·subst hcc; exact⟨_,hc'⟩
   ·obtain⟨w2,z2⟩:=I.cell y c' e
    exact⟨w2,z2.sameBut hs hcc⟩
  ·obtain⟨e,n,ne,nf,d⟩:=I.pin p hp
   refine⟨(hs.2 p.1 ?_).trans e,n,ne,nf,d⟩
   intro q
   rw [q,hoc]at e
   have q':oc=p.2:=aH e
   exact d w' (by rw [<-q']; exact hocd)
theorem zp{M:Model}{A:bA}{E:Value->ai->Prop}{i:Nat}{x:Str}{v:V}{u:Value}{Q:Unit->ai->Prop}(I:Inv X pins σ H s)(hN:X.N.Nodup)(hi:X.N[i]? =some x)(hx:Loc X.env.scope x)(r:RelV v u)
  (h: ∀s',Inv X pins (σ.set i (some v)) H s'->Q () s')(hf:X.fn x=true\/X.env.scope.names.lookup x=some .local:=by first | exact .inl rfl | exact .inr rfl | assumption):wpAny M A (storeName X.env x u) Q E s:=
 rK I hN hi hx r (fun s' I' _=>h s' I') hf
theorem Inv.call'{s':ai}{ch:List Addr}(I:Inv X pins σ H s)(ho:s'.os=s.os)(u:Un (uW X.stack) ch H H' s.heap s'.heap)(eI:pG X.prog X.w H' s'.heap)(hg:mR s'.gens)
  (hch: ∀b∈ch,(b∈X.ex\/X.s₀.heap.objs.size<=b)/\b≠X.env.locals/\(∀x c,X.env.cells.lookup x=some c->c≠b)/\ ∀p∈X.pn ++ pins,p.1≠b):Inv X pins σ H' s':=by
 obtain⟨h',g',d',t',o'⟩:=s'
 have e:o'=s.os:=ho
 subst e
 exact I.call (g':=g') (t':=t') (d':=d') u eI hg hch
end
abbrev XK:=Value->Option Addr->Hp->Prop
abbrev St:=List (Option V)
abbrev VK:=V->Hp->Prop
abbrev TE:=St->Hp->VK->Prop
abbrev TT:=St->Hp->(Bool->Hp->Prop)->Prop
abbrev TA:=St->Hp->(List V->Hp->Prop)->Prop
structure Ends where
 nx:St->Hp->Prop
 rt:VK
 bk:St->Hp->Prop:=fun _ _=>False
 ct:St->Hp->Prop:=fun _ _=>False
abbrev TS:=Ends->St->Hp->Prop
def EP(X:Cx)(pins:List (Addr×Obj))(σ:St)(Q:VK)(u:Value)(s':ai):Prop:= ∃v H',Inv X pins σ H' s'/\RelV v u/\Q v H'
def TP(X:Cx)(pins:List (Addr×Obj))(σ:St)(Q:Bool->Hp->Prop)(b:Bool)(s':ai):Prop:= ∃H',Inv X pins σ H' s'/\Q b H'
def AP(X:Cx)(pins:List (Addr×Obj))(σ:St)(Q:List V->Hp->Prop)(us:List Value)(s':ai):Prop:= ∃vs H',Inv X pins σ H' s'/\Vals vs us/\Q vs H'
def SP(X:Cx)(pins:List (Addr×Obj))(D:Ends)(f:Flow)(s':ai):Prop:=
 match f with
 | .next=> ∃σ' H',Inv X pins σ' H' s'/\D.nx σ' H'
 | .brk=> ∃σ' H',Inv X pins σ' H' s'/\D.bk σ' H'
 | .cont=> ∃σ' H',Inv X pins σ' H' s'/\D.ct σ' H'
 | .ret u=> ∃v σ' H',Inv X pins σ' H' s'/\RelV v u/\D.rt v H'
def PE(X:Cx)(e:Expr)(t:TE):Prop:=
 ∀(pins:List (Addr×Obj)) (s:ai) (σ:St) (H:Hp) (Q:VK),Inv X pins σ H s->t σ H Q->wpAny (model X.prog X.w) X.A (eval e X.env) (EP X pins σ Q) X.xe s
def PT(X:Cx)(e:Expr)(t:TT):Prop:=
 ∀(pins:List (Addr×Obj)) (s:ai) (σ:St) (H:Hp) (Q:Bool->Hp->Prop),Inv X pins σ H s->t σ H Q->wpAny (model X.prog X.w) X.A (isTrue e X.env (eval e X.env)) (TP X pins σ Q) X.xe s
def PW(X:Cx)(e:Expr)(t:TT):Prop:=
 ∀(whole:Sem Value) (pins:List (Addr×Obj)) (s:ai) (σ:St) (H:Hp) (Q:Bool->Hp->Prop),Inv X pins σ H s->t σ H Q->wpAny (model X.prog X.w) X.A (isTrue e X.env whole) (TP X pins σ Q) X.xe s
theorem PW.pt{X:Cx}{e:Expr}{t:TT}(h:PW X e t):PT X e t:=h _
def PA(X:Cx)(es:List Expr)(t:TA):Prop:=
 ∀(pos:Pos) (pins:List (Addr×Obj)) (s:ai) (σ:St) (H:Hp) (Q:List V->Hp->Prop),Inv X pins σ H s->t σ H Q->wpAny (model X.prog X.w) X.A (spliced (eQ pos (au es X.env))) (AP X pins σ Q) X.xe s
def PS(X:Cx)(st:Stmt)(t:TS):Prop:=
 ∀(pins:List (Addr×Obj)) (s:ai) (σ:St) (H:Hp) (D:Ends),Inv X pins σ H s->t D σ H->wpAny (model X.prog X.w) X.A (exec st X.env) (SP X pins D) X.xe s
def Br(X:Cx)(st:List Stmt)(t:TS):Prop:=
 ∀(pins:List (Addr×Obj)) (s:ai) (σ:St) (H:Hp) (D:Ends),Inv X pins σ H s->t D σ H->wpAny (model X.prog X.w) X.A (execs st X.env) (SP X pins D) X.xe s
theorem fg{α:Type}{t:Sem α}{Q Q':α->ai->Prop}{M:Model}{A:bA}{E:Value->ai->Prop}{s:ai}(h:wpAny M A t Q E s)(hQ: ∀a s,Q a s->Q' a s):wpAny M A t Q' E s:=bW h hQ fun _ _ x=>x
end L2
namespace L2
open PySem PySem.Spec PyProof.Rows
section
variable {X:Cx}
def O1(i:Nat):TE:=fun σ H Q=> ∃v,σ[i]? =some (some v)/\Q v H
def tC(v:V):TE:=fun _ H Q=>Q v H
theorem ng{i:Nat}{x:Str}{pos:Pos}(hN:X.N[i]? =some x)(hv:y7 X.env.scope x)(hd:(x==("__debug__":Str))=false:=by decide)(hcd:(x==("__classdict__":Str))=false:=by decide):PE X (.Name x pos) (O1 i):=by
 intro pins s σ H Q I h
 obtain⟨v,e,h⟩:=h
 obtain⟨m,hn,hl⟩:=I.loc
 obtain⟨u,r,l⟩:=hl i x v hN e hv
 have fin:EP X pins σ Q u s:=⟨v,H,I,r,h⟩
 rcases l with⟨hk,hm⟩ | ⟨hk,c,hc,hcell⟩
 ·exact wpAny_Name (wpAny_loadName_local I.ok.kind hk hn hm fin) hd
 ·rcases hk with hk | hk
  ·exact wpAny_Name (wpAny_loadName_cell I.ok.kind hk hc hcell fin) hd
  ·exact wpAny_Name (wpAny_loadName_free I.ok.kind hk hc hcell fin hcd) hd
theorem Mm{i j pos}:PE X (.Constant (.int i) j pos) (tC (.int i)):=fun _ _ _ H _ I h=>wpAny_Constant_int ⟨.int i,H,I.tok _,⟨_,rfl⟩,h⟩
theorem Nx{b j pos}:PE X (.Constant (.bool b) j pos) (tC (.bl b)):=fun _ _ _ H _ I h=>Constant_bool ⟨.bl b,H,I,rfl,h⟩
theorem Mp{j pos}:PE X (.Constant .none j pos) (tC .non):=fun _ _ _ H _ I h=>Constant_none ⟨.non,H,I,rfl,h⟩
theorem Lk{x j pos}:PE X (.Constant (.str x) j pos) (tC (.str x)):=fun _ _ _ H _ I h=>Calls.Constant_str ⟨.str x,H,I.tok _,⟨_,rfl⟩,h⟩
def Gl(X:Cx)(x:Str):Prop:=X.env.kindOf x=some .globalImplicit
theorem nt{E:Value->ai->Prop}{pins:List (Addr×Obj)}{s:ai}{σ:St}{H:Hp}{x:Str}{u:Value}{pos:Pos}{Q:Value->ai->Prop}(I:Inv X pins σ H s)(hg:Gl X x)(hm:X.mg x=some u)(h:Q u s)
  (hd:(x==("__debug__":Str))=false:=by decide):wpAny (model X.prog X.w) X.A (eval (.Name x pos) X.env) Q E s:=
 Calls.Name_function_global I.ok.kind hg (Calls.loadGlobal_global (by rw [I.ok.glob]; exact I.mod.glob.keeps I.bk) hm h) hd
theorem rB{E:Value->ai->Prop}{pins:List (Addr×Obj)}{s:ai}{σ:St}{H:Hp}{x:Str}{u:Value}{pos:Pos}{Q:Value->ai->Prop}(I:Inv X pins σ H s)(hg:Gl X x)(hm:X.mg x=none)(hv:dE x=some u)(h:Q u s)
  (hn:x≠"__name__":=by decide)(hd:(x==("__debug__":Str))=false:=by decide):wpAny (model X.prog X.w) X.A (eval (.Name x pos) X.env) Q E s:=by
 obtain⟨mb,h1,h2⟩:=I.mod.blt
 exact Calls.Name_function_global I.ok.kind hg (Calls.loadGlobal_builtin (by rw [I.ok.glob]; exact I.mod.glob.keeps I.bk) hm (by rw [I.ok.blt]; exact h1.keeps I.bk) ((h2 x hn).trans hv) h) hd
theorem Cm{x:Str}{v:V}{u:Value}{pos:Pos}(hg:Gl X x)(hm:X.mg x=some u)(r:RelV v u)(hd:(x==("__debug__":Str))=false:=by decide):PE X (.Name x pos) (tC v):=
 fun _ _ _ H _ I h=>nt I hg hm ⟨v,H,I,r,h⟩ hd
theorem tL{x:Str}{v:V}{u:Value}{pos:Pos}(hg:Gl X x)(hm:X.mg x=none)(hv:dE x=some u)(r:RelV v u)(hn:x≠"__name__":=by decide)(hd:(x==("__debug__":Str))=false:=by decide):PE X (.Name x pos) (tC v):=
 fun _ _ _ H _ I h=>rB I hg hm hv ⟨v,H,I,r,h⟩ hn hd
variable {a b:Expr}{ta tb:TE}{pos:Pos}
def tB(t:TE):TT:=fun σ H Q=>t σ H fun x H1=> ∃c,x= .bl c/\Q c H1
theorem L5{e:Expr}{t:TE}(h:PE X e t)(he: ∀whole,isTrue e X.env whole=(do let v<-whole; standAt e.pos; kS [v] (truthy v)):=by intro _; rfl):PT X e (tB t):=by
 intro pins s σ H Q I hw
 refine isTrue_plain (fg (h pins s σ H _ I hw) fun v s1 ⟨x,H1,I1,r1,q1⟩=> ?_) (he _)
 obtain⟨d,rfl,q⟩:=q1
 cases r1
 exact fJ ⟨H1,I1,q⟩
variable {tA tB':TT}{rest:List Expr}
def Ow(t u:TT):TT:=fun σ H Q=>t σ H fun c H1=>if c=true then u σ H1 Q else Q false H1
def Vd(t u:TT):TT:=fun σ H Q=>t σ H fun c H1=>if c=true then Q true H1 else u σ H1 Q
def Pa(t:TT):TT:=fun σ H Q=>t σ H fun c H1=>Q (!c) H1
theorem pw_and1(ha:PT X a tA):PW X (.BoolOp .And [a] pos) tA:=by
 intro wh pins s σ H Q I h
 refine isTrue_and (fg (ha pins s σ H Q I h) fun c s1 e=> ?_)
 cases c with
 | true=>exact isTrue_and_nil e
 | false=>exact e
theorem pw_or1(ha:PT X a tA):PW X (.BoolOp .Or [a] pos) tA:=by
 intro wh pins s σ H Q I h
 refine isTrue_or (fg (ha pins s σ H Q I h) fun c s1 e=> ?_)
 cases c with
 | false=>exact isTrue_or_nil e
 | true=>exact e
theorem pw_and(ha:PT X a tA)(hb:PW X (.BoolOp .And (b::rest) pos) tB'):PW X (.BoolOp .And (a::b::rest) pos) (Ow tA tB'):=by
 intro wh pins s σ H Q I h
 refine isTrue_and (fg (ha pins s σ H _ I h) fun c s1 ⟨H1,I1,q1⟩=> ?_)
 cases c with
 | true=>exact hb wh pins s1 σ H1 Q I1 q1
 | false=>exact⟨H1,I1,q1⟩
theorem pw_or(ha:PT X a tA)(hb:PW X (.BoolOp .Or (b::rest) pos) tB'):PW X (.BoolOp .Or (a::b::rest) pos) (Vd tA tB'):=by
 intro wh pins s σ H Q I h
 refine isTrue_or (fg (ha pins s σ H _ I h) fun c s1 ⟨H1,I1,q1⟩=> ?_)
 cases c with
 | true=>exact⟨H1,I1,q1⟩
 | false=>exact hb wh pins s1 σ H1 Q I1 q1
theorem LA(ha:PT X a tA):PT X (.UnaryOp .Not a pos) (Pa tA):=by
 intro pins s σ H Q I h
 exact isTrue_not (ha pins s σ H (fun c H1=>Q (!c) H1) I h)
def MW(ta tb:TE):TE:=fun σ H Q=>ta σ H fun x H1=> ∃c,x= .bl c/\if c=true then tb σ H1 Q else Q (.bl false) H1
def Nz(ta:TE):TE:=fun σ H Q=>ta σ H fun x H1=> ∃c,x= .bl c/\Q (.bl (!c)) H1
theorem LO{op}{t:TE}(h:PE X a t):PE X (.BoolOp op [a] pos) t:=fun pins s σ H Q I hw=>BoolOp_one (h pins s σ H Q I hw)
theorem Lj(ha:PE X a ta)(hb:PE X (.BoolOp .And (b::rest) pos) tb):PE X (.BoolOp .And (a::b::rest) pos) (MW ta tb):=by
 intro pins s σ H Q I h
 refine BoolOp_and (fg (ha pins s σ H _ I h) fun v s1 ⟨x,H1,I1,r1,q1⟩=> ?_)
 obtain⟨c,rfl,q1⟩:=q1
 cases r1
 refine fJ ?_
 cases c with
 | true=>exact hb pins s1 σ H1 Q I1 q1
 | false=>exact⟨.bl false,H1,I1,rfl,q1⟩
theorem LG(ha:PE X a ta):PE X (.UnaryOp .Not a pos) (Nz ta):=by
 intro pins s σ H Q I h
 refine UnaryOp_ (fg (ha pins s σ H _ I h) fun v s1 ⟨x,H1,I1,r1,q1⟩=> ?_)
 obtain⟨c,rfl,q1⟩:=q1
 cases r1
 exact not_of (fJ ⟨.bl (!c),H1,I1,rfl,q1⟩)
end
end L2
namespace L2
open PySem PySem.Spec PyProof.Rows
def pU(K:aT)(H:Hp)(a:Addr)(xs:List V):Prop:=
 Rd H a (.lst xs)\/
  ∃(o:Obj) (its:Array Value) (n:Nat),K.lookup a=some o/\o.cls= .type "list"/\o.dict=none/\o.data= .seq its n/\its.size<=sizeLine/\Vals xs its.toList
def kq(K:aT)(H:Hp)(a:Addr)(xs:List V):Prop:=
 Rd H a (.tup xs)\/
  ∃(o:Obj) (its:Array Value) (n:Nat),K.lookup a=some o/\o.cls= .type "tuple"/\o.data= .seq its n/\its.size<=sizeLine/\Vals xs its.toList
def O4:Value->Option V
 | .none=>some .non
 | .bool b=>some (.bl b)
 | .int i _=>some (.int i)
 | .str x _=>some (.str x)
 | .bytes b _=>some (.byt b)
 | .float b _=>some (.flt b)
 | .ref a=>some (.ref a)
 | .type n=>some (.ty n)
 | _=>none
theorem RelV.abs{x:V}{u:Value}(r:RelV x u):O4 u=some x:=by
 cases x with
 | non=>cases r; rfl
 | bl _=>cases r; rfl
 | int _=>obtain⟨t,rfl⟩:=r; rfl
 | str _=>obtain⟨t,rfl⟩:=r; rfl
 | byt _=>obtain⟨t,rfl⟩:=r; rfl
 | flt _=>obtain⟨t,rfl⟩:=r; rfl
 | ref _=>cases r; rfl
 | ty _=>cases r; rfl
theorem RelV.inj{x y:V}{u:Value}(r:RelV x u)(q:RelV y u):x=y:=aH (r.abs.symm.trans q.abs)
theorem Vals.inj: ∀{xs ys:List V} {us:List Value},Vals xs us->Vals ys us->xs=ys
 | _,_,_, .nil, .nil=>rfl
 | _,_,_, .cons r t, .cons r' t'=>by rw [r.inj r',Vals.inj t t']
section
variable {X:Cx}{pins:List (Addr×Obj)}{σ:St}{H:Hp}{s:ai}{a:Addr}{xs ys:List V}
theorem pU.of{K:aT}(h:H a=some (.lst xs)):pU K H a xs:= .inl (.inl h)
theorem kq.of{K:aT}(h:H a=some (.tup xs)):kq K H a xs:= .inl (.inl h)
theorem Inv.list(I:Inv X pins σ H s)(h:pU X.K H a xs): ∃its:List Value,Vals xs its/\PlainL s.heap a its.toArray/\xs.length<=sizeLine:=by
 rcases h with h | ⟨o,its,n,hk,hc,hd,hs,hz,r⟩
 ·obtain⟨z,its,n,r,e⟩:=h.ok I.eI
  exact⟨its,r,⟨_,n,e,rfl,rfl,rfl⟩,z⟩
 ·refine⟨its.toList,r,⟨o,n,I.kIn a o hk,hc,hd,by simpa using hs⟩, ?_⟩
  have e:=r.length
  simp only [aj]at e
  omega
theorem Inv.tuple(I:Inv X pins σ H s)(h:kq X.K H a xs): ∃its:List Value,Vals xs its/\IsTup s.heap a its.toArray/\xs.length<=sizeLine:=by
 rcases h with h | ⟨o,its,n,hk,hc,hs,hz,r⟩
 ·obtain⟨z,its,r,p⟩:=h.ok I.eI
  exact⟨its,r,p,z⟩
 ·refine⟨its.toList,r,⟨o,I.kIn a o hk,hc,n,by simpa using hs⟩, ?_⟩
  have e:=r.length
  simp only [aj]at e
  omega
theorem Inv.list_inj(I:Inv X pins σ H s)(h:pU X.K H a xs)(h':pU X.K H a ys):xs=ys:=by
 obtain⟨its,r,⟨o,n,e,_,_,d⟩,_⟩:=I.list h
 obtain⟨its',r',⟨o',n',e',_,_,d'⟩,_⟩:=I.list h'
 rw [e]at e'; cases e'
 rw [d]at d'
 injection d' with d1 _
 have:its=its':=by simpa using congrArg Array.toList d1
 subst this
 exact r.inj r'
theorem Inv.tuple_inj(I:Inv X pins σ H s)(h:kq X.K H a xs)(h':kq X.K H a ys):xs=ys:=by
 obtain⟨its,r,⟨o,e,_,n,d⟩,_⟩:=I.tuple h
 obtain⟨its',r',⟨o',e',_,n',d'⟩,_⟩:=I.tuple h'
 rw [e]at e'; cases e'
 rw [d]at d'
 injection d' with d1 _
 have:its=its':=by simpa using congrArg Array.toList d1
 subst this
 exact r.inj r'
end
abbrev Cx.wish(X:Cx)(E:Value->ai->Prop):Cx:={X with xe:=E}
abbrev Cx.nox(X:Cx):Cx:=X.wish fun _ _=>False
theorem Cx.Ok.wish{X:Cx}(ok:X.Ok)(E:Value->ai->Prop):(X.wish E).Ok:=
 ⟨ok.mod,ok.kind,ok.glob,ok.blt,ok.above,ok.inj,ok.has,ok.Fb,ok.hd,ok.frames,ok.sF,ok.J7,ok.bs,ok.yH,ok.rM,ok.uw,ok.mr,ok.AY⟩
theorem Cx.Ok.unwish{X:Cx}{E:Value->ai->Prop}(ok:(X.wish E).Ok):X.Ok:=
 ⟨ok.mod,ok.kind,ok.glob,ok.blt,ok.above,ok.inj,ok.has,ok.Fb,ok.hd,ok.frames,ok.sF,ok.J7,ok.bs,ok.yH,ok.rM,ok.uw,ok.mr,ok.AY⟩
section
variable {X:Cx}{pins:List (Addr×Obj)}{σ:St}{H:Hp}{s:ai}{E:Value->ai->Prop}
theorem Inv.wish(I:Inv X pins σ H s)(E:Value->ai->Prop):Inv (X.wish E) pins σ H s:=⟨I.ok.wish E,I.os,I.bare,I.base,I.loc,I.cell,I.free,I.i0,I.pin,I.eI,I.len⟩
theorem Inv.unwish(I:Inv (X.wish E) pins σ H s):Inv X pins σ H s:=⟨I.ok.unwish,I.os,I.bare,I.base,I.loc,I.cell,I.free,I.i0,I.pin,I.eI,I.len⟩
theorem SP.unwish{D:Ends}{f:Flow}{s':ai}(h:SP (X.wish E) pins D f s'):SP X pins D f s':=by
 cases f with
 | next=>obtain⟨σ',H',I,q⟩:=h; exact⟨σ',H',I.unwish,q⟩
 | brk=>obtain⟨σ',H',I,q⟩:=h; exact⟨σ',H',I.unwish,q⟩
 | cont=>obtain⟨σ',H',I,q⟩:=h; exact⟨σ',H',I.unwish,q⟩
 | ret u=>obtain⟨v,σ',H',I,r,q⟩:=h; exact⟨v,σ',H',I.unwish,r,q⟩
theorem Br.nox{st:List Stmt}{t:TS}(h:Br X.nox st t):Br X st t:=fun pins s σ H D I hw=>
 bW (h pins s σ H D (I.wish _) hw) (fun _ _ q=>q.unwish) fun _ _ z=>cS z
end
section
variable {X:Cx}{st:Stmt}{rest:List Stmt}{t u:TS}{e:Expr}{te:TE}{pos:Pos}
def Nf:TS:=fun D σ H=>D.nx σ H
def Ox(t u:TS):TS:=fun D σ H=>t {D with nx:=u D} σ H
theorem tH:Br X [] Nf:=fun _ _ σ H _ I h=>o8 ⟨σ,H,I,h⟩
theorem dS(h1:PS X st t)(h2:Br X rest u):Br X (st::rest) (Ox t u):=by
 intro pins s σ H D I h
 refine wpAny_execs_cons (fg (h1 pins s σ H {D with nx:=u D} I h) fun f s1 q=> ?_)
 cases f with
 | next=>
  obtain⟨σ',H',I',q⟩:=q
  exact h2 pins s1 σ' H' D I' q
 | ret v=>exact q
 | brk=>exact q
 | cont=>exact q
theorem tJ(h1:PS X st t):Br X [st] t:=by
 intro pins s σ H D I h
 refine wpAny_execs_cons (fg (h1 pins s σ H D I h) fun f s1 q=> ?_)
 cases f with
 | next=>exact o8 q
 | ret v=>exact q
 | brk=>exact q
 | cont=>exact q
theorem Inv.quiet{pins:List (Addr×Obj)}{σ:St}{H:Hp}{s:ai}(I:Inv X pins σ H s):interactive X.env=false:=by simp [interactive,I.ok.kind]
def Np(te:TE):TS:=fun D σ H=>te σ H fun _ H1=>D.nx σ H1
theorem oQ(he:PE X e te)(hs:dh e none pos.line X.env=pure false:=by rfl):PS X (.Expr e pos) (Np te):=by
 intro pins s σ H D I h
 exact wpAny_Expr_any (fg (he pins s σ H _ I h) fun v s1 ⟨x,H1,I1,r1,q1⟩=>⟨σ,H1,I1,q1⟩) I.quiet hs
def OJ(te:TE):TS:=fun D σ H=>te σ H D.rt
theorem L6(he:PE X e te):PS X (.Return (some e) pos) (OJ te):=by
 intro pins s σ H D I h
 exact wpAny_Return_some (fg (he pins s σ H _ I h) fun v s1 ⟨x,H1,I1,r1,q1⟩=>⟨x,σ,H1,I1,r1,q1⟩)
def OX(c:TT)(t u:TS):TS:=fun D σ H=>c σ H fun b H1=>if b=true then t D σ H1 else u D σ H1
theorem zf{c:Expr}{a b:List Stmt}{tc:TT}(hc:PT X c tc)(ha:Br X a t)(hb:Br X b u):PS X (.If c a b pos) (OX tc t u):=by
 intro pins s σ H D I h
 refine wpAny_If (fg (hc pins s σ H _ I h) fun d s1 ⟨H1,I1,q1⟩=> ?_)
 cases d with
 | true=>exact ha pins s1 σ H1 D I1 q1
 | false=>exact hb pins s1 σ H1 D I1 q1
end
abbrev TG:=V->St->Hp->(St->Hp->Prop)->Prop
def PG(X:Cx)(target:Expr)(t:TG):Prop:=
 ∀(pins:List (Addr×Obj)) (s:ai) (σ:St) (H:Hp) (v:V) (u:Value) (Q:St->Hp->Prop),Inv X pins σ H s->RelV v u->t v σ H Q->
  wpAny (model X.prog X.w) X.A (qp target X.env u) (fun _ s'=> ∃σ' H',Inv X pins σ' H' s'/\Q σ' H') X.xe s
abbrev Me:=V->V->V->Hp->(Hp->Prop)->Prop
def M9(X:Cx)(t:Me):Prop:=
 ∀(pins:List (Addr×Obj)) (s:ai) (σ:St) (H:Hp) (o i v:V) (ov iv u:Value) (Q:Hp->Prop),Inv X pins σ H s->RelV o ov->RelV i iv->RelV v u->t o i v H Q->
  wpAny (model X.prog X.w) X.A (setItem ov iv u) (fun _ s'=> ∃H',Inv X pins σ H' s'/\Q H') X.xe s
section
variable {X:Cx}{pos:Pos}
def K7(i:Nat):TG:=fun v σ H Q=>Q (σ.set i (some v)) H
theorem tM{i:Nat}{x:Str}(hN:X.N.Nodup)(hi:X.N[i]? =some x)(hx:Loc X.env.scope x)(hf:X.fn x=true\/X.env.scope.names.lookup x=some .local:=by first | exact .inl rfl | exact .inr rfl | assumption):PG X (.Name x pos) (K7 i):=by
 intro pins s σ H v u Q I r h
 exact wpAny_assign_Name (zp I hN hi hx r (fun s' I'=>⟨_,H,I',h⟩) hf)
def O6(to ti:TE)(t:Me):TG:=fun v σ H Q=>to σ H fun o H1=>ti σ H1 fun i H2=>t o i v H2 fun H3=>Q σ H3
theorem Mi{o i:Expr}{to ti:TE}{t:Me}(ho:PE X o to)(hi:PE X i ti)(hs:M9 X t)
  (ha: ∀v,qp (.Subscript o i pos) X.env v=(do
   let ov<-kS [v] (eval o X.env)
   let iv<-kS [v,ov] (eval i X.env)
   standAt pos
   kS [v,ov,iv] (setItem ov iv v)
   release [v,ov,iv] []):=by intro _; rfl):PG X (.Subscript o i pos) (O6 to ti t):=by
 intro pins s σ H v u Q I r h
 rw [ha]
 refine aa (bM (fg (ho pins s σ H _ I h) fun ov s1 ⟨x,H1,I1,r1,q1⟩=> ?_))
 refine aa (bM (fg (hi pins s1 σ H1 _ I1 q1) fun iv s2 ⟨y,H2,I2,r2,q2⟩=> ?_))
 refine aa (rd (aa (bM (fg (hs pins s2 σ H2 x y v ov iv u _ I2 r1 r2 r q2) fun _ s3 ⟨H3,I3,q3⟩=> ?_))))
 exact wpAny_release ⟨σ,H3,I3,q3⟩
def Nt(te:TE)(g:TG):TS:=fun D σ H=>te σ H fun x H1=>g x σ H1 D.nx
theorem LQ{tg e:Expr}{te:TE}{g:TG}(he:PE X e te)(hg:PG X tg g)(hs:swapsWithSole [tg] e pos.line X.env=pure false:=by rfl)(hw:swappedStores [tg] e X.env=pure none:=by rfl)
  (h1:(assignEach [tg] X.env).map (·.2)= [qp tg X.env]:=by rfl):PS X (.Assign [tg] e pos) (Nt te g):=by
 intro pins s σ H D I h
 refine wpAny_Assign_stores (fg (he pins s σ H _ I h) fun v s1 ⟨x,H1,I1,r1,q1⟩=> ?_) hs hw
 rw [h1]
 exact fg (hg pins s1 σ H1 x v _ I1 r1 q1) fun _ s2 q=>q
theorem rG{i:Nat}{x:Str}{e:Expr}{te:TE}{pos':Pos}(hN:X.N.Nodup)(hi:X.N[i]? =some x)(hx:Loc X.env.scope x)(he:PE X e te)(hs:dh e (some (.Name x pos')) pos.line X.env=pure false:=by rfl)(hf:X.fn x=true\/X.env.scope.names.lookup x=some .local:=by first | exact .inl rfl | exact .inr rfl | assumption):
  PS X (.Assign [.Name x pos'] e pos) (Nt te (K7 i)):=by
 intro pins s σ H D I h
 refine wpAny_Assign_Name (fg (he pins s σ H _ I h) fun v s1 ⟨y,H1,I1,r1,q1⟩=> ?_) hs
 exact zp I1 hN hi hx r1 (fun s2 I2=>⟨_,H1,I2,q1⟩) hf
end
section
variable {X:Cx}{pos:Pos}
def LV(c:TT)(tb:TS):TS:=fun D σ H=> ∃W:Nat->St->Hp->Prop,(∃m,W m σ H)/\ ∀m σ H,W m σ H->
 c σ H fun b H1=>if b=true then ∃N:St->Hp->Prop,(∀σ' H',N σ' H'-> ∃m',m' < m/\W m' σ' H')/\tb {D with nx:=N,ct:=N,bk:=D.nx} σ H1 else D.nx σ H1
theorem zE{c:Expr}{body:List Stmt}{tc:TT}{tb:TS}(hp:vC (model X.prog X.w) X.A X.env X.xe)(hc:PT X c tc)(hb:Br X body tb):PS X (.While c body [] pos) (LV tc tb):=by
 intro pins s σ H D I h
 obtain⟨W,⟨m0,w0⟩,turn⟩:=h
 refine wpAny_While (codeAny_whileLoop (fun n s'=> ∃σ' H',Inv X pins σ' H' s'/\W n σ' H') ?_ m0 ⟨σ,H,I,w0⟩)
 rintro n s1 ⟨σ1,H1,I1,w1⟩
 refine iV hp (fg (hc pins s1 σ1 H1 _ I1 (turn n σ1 H1 w1)) fun b s2 ⟨H2,I2,q2⟩=> ?_)
 cases b with
 | true=>
  obtain⟨N,hN,q2⟩:=q2
  rw [if_pos rfl]
  refine iV hp (fg (hb pins s2 σ1 H2 _ I2 q2) fun f s3 q3=> ?_)
  cases f with
  | next=>
   obtain⟨σ3,H3,I3,n3⟩:=q3
   obtain⟨m',hm,w3⟩:=hN σ3 H3 n3
   exact⟨m',hm,σ3,H3,I3,w3⟩
  | cont=>
   obtain⟨σ3,H3,I3,n3⟩:=q3
   obtain⟨m',hm,w3⟩:=hN σ3 H3 n3
   exact⟨m',hm,σ3,H3,I3,w3⟩
  | brk=>exact q3
  | ret v=>exact q3
 | false=>
  rw [if_neg aF]
  exact o8 ⟨σ1,H2,I2,q2⟩
end
structure It where
 go:Nat->Hp->Prop
 ON:Nat->Hp->V->Hp->Prop
 stop:Nat->Hp->Prop
def kc(X:Cx)(pins:List (Addr×Obj))(H:Hp)(b:Addr):Prop:=
 H b=none/\b≠X.env.locals/\b∉X.fs/\(b∈X.ex\/X.s₀.heap.objs.size<=b)/\(∀x c,X.env.cells.lookup x=some c->c≠b)/\ ∀p∈X.pn ++ pins,p.1≠b
theorem Inv.fpOk{X:Cx}{pins:List (Addr×Obj)}{σ:St}{H H':Hp}{s:ai}{b:Addr}(I:Inv X pins σ H s)(hb:s.heap.objs.size<=b)(hn:H' b=none):kc X pins H' b:=by
 refine⟨hn,bY (bf I.lt hb),I.nofs hb, .inr (bE I.sz hb),fun x c e z=> ?_,fun p hp z=> ?_⟩
 ·obtain⟨v,q⟩:=I.cell x c e
  exact absurd (bf q.lt (by rw [z]; exact hb)) (dz _)
 ·exact absurd (bf (av (I.pin p hp).1) (by rw [z]; exact hb)) (dz _)
structure Turn(P:aq)(w:World)(K:aT)(tg:Expr)(J:It)(fp:List Addr)(it:Addr)(tn:Nat->Heap->Prop):Prop where
 mem:it∈fp
 obj: ∀i h,tn i h-> ∀b∈fp, ∃o,h.get? b=some o/\ ∀v,o.data≠ .cell v
 keep: ∀i h h',tn i h->(∀b∈fp, ∀o,h.get? b=some o->h'.get? b=some o)->tn i h'
 item: ∀(X:Cx),X.prog=P->X.w=w->X.K=K->X.calm=true-> ∀(i:Nat) (pins:List (Addr×Obj)) (s:ai) (σ:St) (H:Hp) (E:Value->ai->Prop),Inv X pins σ H s->(∀b∈fp,kc X pins H b)->tn i s.heap->J.go i H->
  wpAny (model P w) X.A (je (.ref it)) (fun r s1=> ∃u,r=some u/\
   wpAny (model P w) X.A (o9 tg (.ref it) u) (fun _ s2=> ∃x H',Inv X pins σ H' s2/\RelV x u/\J.ON i H x H'/\tn (i+1) s2.heap/\ ∀b∈fp,H' b=none) E s1) E s
 done: ∀(X:Cx),X.prog=P->X.w=w->X.K=K->X.calm=true-> ∀(i:Nat) (pins:List (Addr×Obj)) (s:ai) (σ:St) (H:Hp) (E:Value->ai->Prop),Inv X pins σ H s->(∀b∈fp,kc X pins H b)->tn i s.heap->J.stop i H->
  wpAny (model P w) X.A (je (.ref it)) (fun r s1=>r=none/\Inv X pins σ H s1) E s
 self: ∀(A:bA) (i:Nat) (s:ai) (Q:Value->ai->Prop) (E:Value->ai->Prop),tn i s.heap->Q (.ref it) s->wpAny (model P w) A (vD (.ref it)) Q E s
abbrev TI:=St->Hp->(It->Hp->Prop)->Prop
def OW(X:Cx)(pins:List (Addr×Obj))(σ:St)(tg:Expr)(R:It->Hp->Prop)(itv:Value)(s2:ai):Prop:=
 ∃(it:Addr) (fp:List Addr) (tn:Nat->Heap->Prop) (J:It) (H':Hp),itv= .ref it/\Inv X pins σ H' s2/\Turn X.prog X.w X.K tg J fp it tn/\tn 0 s2.heap/\(∀b∈fp,kc X pins H' b)/\R J H'
def PI(X:Cx)(tg iter:Expr)(wi:TI):Prop:=
 ∀(pins:List (Addr×Obj)) (s:ai) (σ:St) (H:Hp) (R:It->Hp->Prop),Inv X pins σ H s->wi σ H R->
  wpAny (model X.prog X.w) X.A (eval iter X.env) (fun v s1=>wpAny (model X.prog X.w) X.A (vD v) (OW X pins σ tg R) X.xe s1) X.xe s
theorem Ib{M:Model}{A:bA}{E:Value->ai->Prop}{s:ai}{tg:Expr}{it:Addr}{u:Value}{o:Obj}{n:String}{vs:Array Value}{Q:Unit->ai->Prop}(ho:s.heap.get? it=some o)(hc:o.cls= .type n)(hd:o.data= .fields vs)
    (hn: ["enumerate","zip","dict_itemiterator","dict_reverseitemiterator","odict_iterator","itertools.zip_longest","itertools.pairwise"].contains n=false)(hQ:Q () s):wpAny M A (o9 tg (.ref it) u) Q E s:=by
  unfold o9
  cases tg <;> first
    | exact af hQ
    | (cases u <;> first
        | exact af hQ
        | (refine aa (wpAny_load ho ?_)
           rw [hc,hd]
           show wpAny M A (if(["enumerate","zip","dict_itemiterator","dict_reverseitemiterator","odict_iterator","itertools.zip_longest","itertools.pairwise"].contains n&&vs[0]? ==some (eS _))=true then _ else _) Q E s
           rw [if_neg (by intro h; rw [hn,fu]at h; cases h)]
           exact af hQ))
def OQ(K:aT)(a:Addr):It:=
 ⟨fun i H=> ∃xs x,pU K H a xs/\xs[i]? =some x,fun i H x H'=>H'=H/\ ∀xs,pU K H a xs->xs[i]? =some x,fun i H=> ∃xs,pU K H a xs/\xs.length<=i⟩
def OB(K:aT)(a:Addr):It:=
 ⟨fun i H=> ∃xs x,kq K H a xs/\xs[i]? =some x,fun i H x H'=>H'=H/\ ∀xs,kq K H a xs->xs[i]? =some x,fun i H=> ∃xs,kq K H a xs/\xs.length<=i⟩
def Na(lo:Int)(n:Nat):It:=⟨fun i _=>i < n,fun i H x H'=>H'=H/\x= .int (lo+i),fun i _=>n<=i⟩
theorem DR{P:aq}{w:World}{K:aT}{tg:Expr}(a it:Addr):Turn P w K tg (OQ K a) [it] it (fun i h=>h.IsListIter it a i) where
 mem:=by simp
 obj:=fun i h st b hb=>by
  have e:b=it:=by simpa using hb
  subst e
  obtain⟨o,e,c,d⟩:=st
  exact⟨o,e,fun v z=>by rw [d]at z; cases z⟩
 keep:=fun i h h' st k=>st.at fun o e=>k it (by simp) o e
 item:=by
  intro X hP hw hK hc i pins s σ H E I hf st hg
  subst hP hw hK
  obtain⟨xs,x,hq,hx⟩:=hg
  obtain⟨its,rv,p,hz⟩:=I.list hq
  obtain⟨u,hu,ru⟩:=rv.get hx
  obtain⟨f0,f1,f2,f3,f4,f5⟩:=hf it (by simp)
  refine wpAny_pyNext_list_item st p.isList (x:=u) (by simpa using hu) fun h' st' sb=> ?_
  have I1:Inv X pins σ H {s with heap:=h'}:=I.turned (t':=s.toks) (fun b o hb e=>(sb.2 b hb).trans e) f0 f1 f3 f4 f5
  obtain⟨o,e,c,d⟩:=id st'
  exact⟨u,rfl,Ib (s:={s with heap:=h'}) e c d (by decide) ⟨x,H,I1,ru,⟨rfl,fun ys hy=>by rw [I.list_inj hy hq]; exact hx⟩,st',fun b hb=>(hf b hb).1⟩⟩
 done:=by
  intro X hP hw hK hc i pins s σ H E I hf st hg
  subst hP hw hK
  obtain⟨xs,hq,hx⟩:=hg
  obtain⟨its,rv,p,hz⟩:=I.list hq
  obtain⟨f0,f1,f2,f3,f4,f5⟩:=hf it (by simp)
  have hl:=rv.length
  exact wpAny_pyNext_list_end (I.ok.hd hc) st p.isList (by simp; omega) fun h' eb=>⟨rfl,I.turned (t':=s.toks) (fun b o hb e=>eb b o hb e) f0 f1 f3 f4 f5⟩
 self:=fun _ _ _ _ _ st h=>wpAny_pyIter_listiter st h
theorem Bo{P:aq}{w:World}{K:aT}{tg:Expr}(a it:Addr):Turn P w K tg (OB K a) [it] it (fun i h=>h.IsTupleIter it a i) where
 mem:=by simp
 obj:=fun i h st b hb=>by
  have e:b=it:=by simpa using hb
  subst e
  obtain⟨o,e,c,d⟩:=st
  exact⟨o,e,fun v z=>by rw [d]at z; cases z⟩
 keep:=fun i h h' st k=>st.at fun o e=>k it (by simp) o e
 item:=by
  intro X hP hw hK hc i pins s σ H E I hf st hg
  subst hP hw hK
  obtain⟨xs,x,hq,hx⟩:=hg
  obtain⟨its,rv,p,hz⟩:=I.tuple hq
  obtain⟨u,hu,ru⟩:=rv.get hx
  obtain⟨f0,f1,f2,f3,f4,f5⟩:=hf it (by simp)
  refine wpAny_pyNext_tuple_item st (show s.heap.IsTuple a its.toArray from p) (x:=u) (by simpa using hu) fun h' st' sb=> ?_
  have I1:Inv X pins σ H {s with heap:=h'}:=I.turned (t':=s.toks) (fun b o hb e=>(sb.2 b hb).trans e) f0 f1 f3 f4 f5
  obtain⟨o,e,c,d⟩:=id st'
  exact⟨u,rfl,Ib (s:={s with heap:=h'}) e c d (by decide) ⟨x,H,I1,ru,⟨rfl,fun ys hy=>by rw [I.tuple_inj hy hq]; exact hx⟩,st',fun b hb=>(hf b hb).1⟩⟩
 done:=by
  intro X hP hw hK hc i pins s σ H E I hf st hg
  subst hP hw hK
  obtain⟨xs,hq,hx⟩:=hg
  obtain⟨its,rv,p,hz⟩:=I.tuple hq
  obtain⟨f0,f1,f2,f3,f4,f5⟩:=hf it (by simp)
  have hl:=rv.length
  exact wpAny_pyNext_tuple_end (I.ok.hd hc) st (show s.heap.IsTuple a its.toArray from p) (by simp; omega) fun h' eb=>⟨rfl,I.turned (t':=s.toks) (fun b o hb e=>eb b o hb e) f0 f1 f3 f4 f5⟩
 self:=fun _ _ _ _ _ st h=>wpAny_pyIter_tupleiter st h
theorem Bp{P:aq}{w:World}{K:aT}{tg:Expr}(it:Addr)(lo:Int)(n:Nat):Turn P w K tg (Na lo n) [it] it (fun i h=>IsRangeIter h it (lo+(i:Nat) * 1) ((n:Int) - (i:Nat)) 1) where
 mem:=by simp
 obj:=fun i h st b hb=>by
  have e:b=it:=by simpa using hb
  subst e
  exact⟨_,st,fun v z=>by
   have z':Data.fields _=Data.cell v:=z
   cases z'⟩
 keep:=fun i h h' st k=>k it (by simp) _ st
 item:=by
  intro X hP hw hK hc i pins s σ H E I hf st hg
  subst hP hw hK
  obtain⟨f0,f1,f2,f3,f4,f5⟩:=hf it (by simp)
  have W:=Walks.range (prog:=X.prog) (w:=X.w) (I.ok.hd hc) it lo 1 n
  refine W.item i s _ _ hg st fun v h' tk hv st' kk=> ?_
  obtain⟨t,rfl⟩:=hv
  have I1:Inv X pins σ H {s with heap:=h',toks:=tk}:=I.turned (fun b o hb e=>kk b o (by simpa using hb) e) f0 f1 f3 f4 f5
  refine⟨_,rfl,Ib (s:={s with heap:=h',toks:=tk}) (n:="range_iterator") st' rfl rfl (by decide) ⟨.int (lo+i),H,I1,⟨t, ?_⟩,⟨rfl,rfl⟩,st',fun b hb=>(hf b hb).1⟩⟩
  rw [Int.mul_one]
 done:=by
  intro X hP hw hK hc i pins s σ H E I hf st hg
  subst hP hw hK
  obtain⟨f0,f1,f2,f3,f4,f5⟩:=hf it (by simp)
  exact wpAny_pyNext_range_end (I.ok.hd hc) st (by have:n<=i:=hg; omega) fun h' eb=>⟨rfl,I.turned (t':=s.toks) (fun b o hb e=>eb b o hb e) f0 f1 f3 f4 f5⟩
 self:=fun _ _ _ _ _ st h=>wpAny_pyIter_rangeiter st h
end L2
namespace L2
open PySem PySem.Spec PyProof.Rows
section
variable {X:Cx}{tg:Expr}
def MF(K:aT)(tl:TE):TI:=fun σ H R=>tl σ H fun x H1=> ∃a,x= .ref a/\(∃xs,pU K H1 a xs)/\R (OQ K a) H1
def OL(K:aT)(tl:TE):TI:=fun σ H R=>tl σ H fun x H1=> ∃a,x= .ref a/\(∃xs,kq K H1 a xs)/\R (OB K a) H1
theorem Cg{l:Expr}{tl:TE}(hl:PE X l tl):PI X tg l (MF X.K tl):=by
 intro pins s σ H R I h
 refine fg (hl pins s σ H _ I h) fun v s1 ⟨x,H1,I1,r1,q1⟩=> ?_
 obtain⟨a,e,⟨xs,hq⟩,q⟩:=q1
 subst e
 cases r1
 obtain⟨its,rv,p,hz⟩:=I1.list hq
 refine sR p.isList ?_
 refine⟨s1.heap.objs.size, [s1.heap.objs.size],_,_,H1,rfl,I1.kept (t':=s1.toks) fun b o e=>ag _ e,DR a _,⟨_,az _ rfl,rfl,rfl⟩,fun b hb=> ?_,q⟩
 have e:b=s1.heap.objs.size:=by simpa using hb
 subst e
 exact I1.fpOk (ay _) (I1.eI.fresh (ay _))
theorem Mn{l:Expr}{tl:TE}(hl:PE X l tl):PI X tg l (OL X.K tl):=by
 intro pins s σ H R I h
 refine fg (hl pins s σ H _ I h) fun v s1 ⟨x,H1,I1,r1,q1⟩=> ?_
 obtain⟨a,e,⟨xs,hq⟩,q⟩:=q1
 subst e
 cases r1
 obtain⟨its,rv,p,hz⟩:=I1.tuple hq
 refine IK (show s1.heap.IsTuple a its.toArray from p) ?_
 refine⟨s1.heap.objs.size, [s1.heap.objs.size],_,_,H1,rfl,I1.kept (t':=s1.toks) fun b o e=>ag _ e,Bo a _,⟨_,az _ rfl,rfl,rfl⟩,fun b hb=> ?_,q⟩
 have e:b=s1.heap.objs.size:=by simpa using hb
 subst e
 exact I1.fpOk (ay _) (I1.eI.fresh (ay _))
theorem yP{pins:List (Addr×Obj)}{σ:St}{H:Hp}{s:ai}{R:It->Hp->Prop}{E:Value->ai->Prop}{lo hi:Int}{t u v:Tok}{tk:Nat}(I:Inv X pins σ H s)(h1: -(2 ^ 62)<=lo)(h2:lo < 2 ^ 62)(h3: -(2 ^ 62)<=hi)(h4:hi < 2 ^ 62)
  (q:R (Na lo (hi - lo).toNat) H):wpAny (model X.prog X.w) X.A (vD (.ref s.heap.objs.size)) (OW X pins σ tg R) E {s with heap:=s.heap.push {cls:= .type "range",data:= .fields #[.int lo t, .int hi u, .int 1 v]},toks:=tk}:=by
 refine wpAny_pyIter_range (IsRange.new ..) (small_one h1 h2 h3 h4) ?_
 have I1:Inv X pins σ H {s with heap:=s.heap.push {cls:= .type "range",data:= .fields #[.int lo t, .int hi u, .int 1 v]},toks:=tk}:=I.kept fun b o e=>ag _ e
 refine⟨(s.heap.push {cls:= .type "range",data:= .fields #[.int lo t, .int hi u, .int 1 v]}).objs.size, [(s.heap.push {cls:= .type "range",data:= .fields #[.int lo t, .int hi u, .int 1 v]}).objs.size],_,_,H,rfl,
  I1.kept (t':=tk) fun b o e=>ag _ e,Bp _ lo (hi - lo).toNat, ?_,fun b hb=> ?_,q⟩
 ·have e1:lo+((0:Nat):Int) * 1=lo:=by simp
  have e2:(((hi - lo).toNat:Nat):Int) - ((0:Nat):Int)=Builtin.Range.rangeSize lo hi 1:=by rw [rangeSize_one]; split <;> omega
  show IsRangeIter _ _ (lo+((0:Nat):Int) * 1) ((((hi - lo).toNat:Nat):Int) - ((0:Nat):Int)) 1
  rw [e1,e2]
  exact az _ rfl
 ·have e:b=(s.heap.push {cls:= .type "range",data:= .fields #[.int lo t, .int hi u, .int 1 v]}).objs.size:=by simpa using hb
  subst e
  exact I1.fpOk (ay _) (I1.eI.fresh (ay _))
def M4(ta:TA):TI:=fun σ H R=>ta σ H fun vs H1=> ∃j:Int,vs= [.int j]/\ -(2 ^ 62)<=j/\j < 2 ^ 62/\R (Na 0 j.toNat) H1
def MV(ta:TA):TI:=fun σ H R=>ta σ H fun vs H1=> ∃i j:Int,vs= [.int i, .int j]/\(-(2 ^ 62)<=i/\i < 2 ^ 62/\ -(2 ^ 62)<=j/\j < 2 ^ 62)/\R (Na i (j - i).toNat) H1
theorem DF{a:Expr}{ta:TA}{p pos:Pos}(hg:Gl X "range")(hm:X.mg "range"=none)(ha:PA X [a] ta)(hs:au [a] X.env= [(false,eval a X.env)]:=by rfl):PI X tg (.Call (.Name "range" p) [a] [] pos) (M4 ta):=by
 intro pins s σ H R I h
 refine Call_ (rB I hg hm boot_range (kT (fg (ha pos pins s σ H _ I h) fun us s1 ⟨vs,H1,I1,r1,q1⟩=> ?_) hs rfl))
 obtain⟨j,e,q1,q2,q⟩:=q1
 subst e
 cases r1 with
 | cons r rr=>
  cases rr
  obtain⟨t,rfl⟩:=r
  exact call_range_1 (yP I1 (by omega) (by omega) q1 q2 (by simpa using q))
theorem DA{a b:Expr}{ta:TA}{p pos:Pos}(hg:Gl X "range")(hm:X.mg "range"=none)(ha:PA X [a,b] ta)(hs:au [a,b] X.env= [(false,eval a X.env),(false,eval b X.env)]:=by rfl)(hs2:au [b] X.env= [(false,eval b X.env)]:=by rfl):
  PI X tg (.Call (.Name "range" p) [a,b] [] pos) (MV ta):=by
 intro pins s σ H R I h
 refine Call_ (rB I hg hm boot_range (kT (fg (ha pos pins s σ H _ I h) fun us s1 ⟨vs,H1,I1,r1,q1⟩=> ?_) (by rw [hs,hs2]) (by rw [hs2]; rfl)))
 obtain⟨i,j,e,⟨q1,q2,q3,q4⟩,q⟩:=q1
 subst e
 cases r1 with
 | cons r rr=>
  cases rr with
  | cons r' rr=>
   cases rr
   obtain⟨t,rfl⟩:=r
   obtain⟨t',rfl⟩:=r'
   exact call_range_2 (yP I1 q1 q2 q3 q4 q)
def O5(wi:TI)(g:TG)(tb:TS):TS:=fun D σ H=>wi σ H fun J H1=> ∃W:Nat->Nat->St->Hp->Prop,(∃m,W 0 m σ H1)/\ ∀i m σ H,W i m σ H->
 (J.stop i H/\D.nx σ H)\/(J.go i H/\ ∃N:St->Hp->Prop,(∀σ' H',N σ' H'-> ∃m',m' < m/\W (i+1) m' σ' H')/\ ∀x H',J.ON i H x H'->g x σ H' fun σ2 H2=>tb {D with nx:=N,ct:=N,bk:=D.nx} σ2 H2)
def xX(fp:List Addr)(h:Heap):List (Addr×Obj):=fp.filterMap fun b=>(h.get? b).map fun o=>(b,o)
theorem g9{fp:List Addr}{h:Heap}{b:Addr}{o:Obj}(hb:b∈fp)(e:h.get? b=some o):(b,o)∈xX fp h:=List.mem_filterMap.mpr ⟨b,hb,by rw [e]; rfl⟩
theorem C6{fp:List Addr}{h:Heap}{p:Addr×Obj}(hp:p∈xX fp h):p.1∈fp/\h.get? p.1=some p.2:=by
 obtain⟨b,hb,e⟩:=List.mem_filterMap.mp hp
 cases q:h.get? b with
 | none=>rw [q]at e; cases e
 | some o=>
  rw [q]at e
  have e':(b,o)=p:=aH e
  subst e'
  exact⟨hb,q⟩
theorem Inv.pinned{pins:List (Addr×Obj)}{σ:St}{H:Hp}{s:ai}{fp:List Addr}(I:Inv X pins σ H s)(hf: ∀b∈fp,kc X pins H b)(ho: ∀b∈fp, ∃o,s.heap.get? b=some o/\ ∀v,o.data≠ .cell v):Inv X (pins ++ xX fp s.heap) σ H s:=
 I.pins_of fun p hp=>(bP.mp hp).elim (fun z=>I.pin p (ba _ z)) fun z=>by
  obtain⟨hb,e⟩:=C6 z
  obtain⟨f0,f1,f2,_⟩:=hf p.1 hb
  obtain⟨o,e',d⟩:=ho p.1 hb
  rw [e]at e'; cases e'
  exact⟨e,f0,f1,f2,d⟩
theorem Inv.unpinned{pins pl:List (Addr×Obj)}{σ:St}{H:Hp}{s:ai}(I:Inv X (pins ++ pl) σ H s):Inv X pins σ H s:=I.pins_of fun p hp=>I.pin p (ba _ (dO _ hp))
theorem GJ{iter:Expr}{body:List Stmt}{wi:TI}{g:TG}{tb:TS}{pos:Pos}(hp:vC (model X.prog X.w) X.A X.env X.xe)(hc:X.calm=true)(hi:PI X tg iter wi)(hg:PG X tg g)(hb:Br X body tb)
  (hs: ∀x,jz iter X.env x=pure x:=by intro _; rfl):PS X (.For tg iter body [] pos) (O5 wi g tb):=by
 intro pins s σ H D I h
 refine wpAny_For (fg (hi pins s σ H _ I h) fun v s1 h1=>fg h1 fun itv s2 h2=> ?_) hs
 obtain⟨it,fp,tn,J,H2,e,I2,T,st2,f2,W,⟨m0,w0⟩,turn⟩:=h2
 subst e
 have stat: ∀{H':Hp},(∀b∈fp,H' b=none)-> ∀b∈fp,kc X pins H' b:=fun hn b hb=>⟨hn b hb,(f2 b hb).2⟩
 refine codeAny_forLoop_any (fun n s'=> ∃i σ' H',Inv X pins σ' H' s'/\tn i s'.heap/\(∀b∈fp,H' b=none)/\W i n σ' H') ?_ m0 ⟨0,σ,H2,I2,st2,fun b hb=>(f2 b hb).1,w0⟩
 rintro n s3 ⟨i,σ3,H3,I3,st3,fr3,w3⟩
 rcases turn i n σ3 H3 w3 with⟨stop,qn⟩ | ⟨go,N,hN,step⟩
 ·refine iV hp (fg (T.done X rfl rfl rfl hc i pins s3 σ3 H3 X.xe I3 (stat fr3) st3 stop) fun r s4 ⟨hr,I4⟩=> ?_)
  subst hr
  exact o8 ⟨σ3,H3,I4,qn⟩
 ·refine iV hp (fg (T.item X rfl rfl rfl hc i pins s3 σ3 H3 X.xe I3 (stat fr3) st3 go) fun r s4 ⟨u,hr,h4⟩=> ?_)
  subst hr
  refine iV hp (fg h4 fun _ s5 ⟨x,H5,I5,r5,y5,st5,fr5⟩=> ?_)
  have I5':=I5.pinned (stat fr5) (T.obj _ _ st5)
  refine iV hp (fg (hg _ s5 σ3 H5 x u _ I5' r5 (step x H5 y5)) fun _ s6 ⟨σ6,H6,I6,q6⟩=> ?_)
  refine iV hp (fg (hb _ s6 σ6 H6 _ I6 q6) fun f s7 q7=> ?_)
  have again: ∀{σ7:St} {H7:Hp},Inv X (pins ++ xX fp s5.heap) σ7 H7 s7->N σ7 H7-> ∃m,m < n/\ ∃i σ' H',Inv X pins σ' H' s7/\tn i s7.heap/\(∀b∈fp,H' b=none)/\W i m σ' H':=fun{σ7 H7} I7 n7=>by
   obtain⟨m',hm,w7⟩:=hN σ7 H7 n7
   refine⟨m',hm,i+1,σ7,H7,I7.unpinned,T.keep _ _ _ st5 fun b hb o e=>(I7.pin (b,o) (ba _ (ba _ (g9 hb e)))).1,fun b hb=> ?_,w7⟩
   obtain⟨o,e,d⟩:=T.obj _ _ st5 b hb
   exact(I7.pin (b,o) (ba _ (ba _ (g9 hb e)))).2.1
  cases f with
  | next=>obtain⟨σ7,H7,I7,n7⟩:=q7; exact again I7 n7
  | cont=>obtain⟨σ7,H7,I7,n7⟩:=q7; exact again I7 n7
  | brk=>obtain⟨σ7,H7,I7,q7⟩:=q7; exact⟨σ7,H7,I7.unpinned,q7⟩
  | ret v=>obtain⟨x7,σ7,H7,I7,r7,q7⟩:=q7; exact⟨x7,σ7,H7,I7.unpinned,r7,q7⟩
end
end L2
namespace L2
open PySem PySem.Spec PyProof.Rows
abbrev R2:=V->V->Hp->VK->Prop
def pA(X:Cx)(f:Value->Value->Sem Value)(r:R2):Prop:=
 ∀(pins:List (Addr×Obj)) (s:ai) (σ:St) (H:Hp) (x y:V) (v u:Value) (Q:VK),Inv X pins σ H s->RelV x v->RelV y u->r x y H Q->
  wpAny (model X.prog X.w) X.A (f v u) (EP X pins σ Q) X.xe s
def OA(X:Cx)(f:Value->Sem Value)(r:V->Hp->VK->Prop):Prop:=
 ∀(pins:List (Addr×Obj)) (s:ai) (σ:St) (H:Hp) (x:V) (v:Value) (Q:VK),Inv X pins σ H s->RelV x v->r x H Q->
  wpAny (model X.prog X.w) X.A (f v) (EP X pins σ Q) X.xe s
def g7(X:Cx)(f:Value)(r:List V->Hp->VK->Prop):Prop:=
 ∀(pins:List (Addr×Obj)) (s:ai) (σ:St) (H:Hp) (xs:List V) (us:List Value) (Q:VK),Inv X pins σ H s->Vals xs us->r xs H Q->
  wpAny (model X.prog X.w) X.A (call f us) (EP X pins σ Q) X.xe s
def N7(r:R2)(ta tb:TE):TE:=fun σ H Q=>ta σ H fun x H1=>tb σ H1 fun y H2=>r x y H2 Q
def Ve(r:V->Hp->VK->Prop)(ta:TE):TE:=fun σ H Q=>ta σ H fun x H1=>r x H1 Q
def rI(C:Int->Int->Prop)(g:Int->Int->V):R2:=fun x y H Q=> ∃i j,x= .int i/\y= .int j/\C i j/\Q (g i j) H
def JF(g:Int->Int->V):R2:=fun x y H Q=> ∃i j,x= .int i/\y= .int j/\Q (g i j) H
def rU(g:Int->V):V->Hp->VK->Prop:=fun x H Q=> ∃i,x= .int i/\Q (g i) H
section
variable {X:Cx}{a b c:Expr}{ta tb tc:TE}{pos:Pos}
theorem Mr(ha:PE X a ta)(hb:PE X b tb){pins:List (Addr×Obj)}{s:ai}{σ:St}{H:Hp}{R:V->V->Hp->Prop}(I:Inv X pins σ H s)
  (h:ta σ H fun x H1=>tb σ H1 fun y H2=>R x y H2){Q:Value->ai->Prop}{f:Value->Value->Sem Value}
  (hf: ∀v u s2 x y H2,Inv X pins σ H2 s2->RelV x v->RelV y u->R x y H2->wpAny (model X.prog X.w) X.A (f v u) Q X.xe s2):
  wpAny (model X.prog X.w) X.A (eval a X.env) (fun v s₁=>wpAny (model X.prog X.w) X.A (eval b X.env) (fun u s₂=>wpAny (model X.prog X.w) X.A (f v u) Q X.xe s₂) X.xe s₁) X.xe s:=by
 refine fg (ha pins s σ H _ I h) fun v s1 ⟨x,H1,I1,r1,q1⟩=> ?_
 refine fg (hb pins s1 σ H1 _ I1 q1) fun u s2 ⟨y,H2,I2,r2,q2⟩=> ?_
 exact hf v u s2 x y H2 I2 r1 r2 q2
theorem GV{op:Operator}{r:R2}(ho:pA X (kf op) r)(ha:PE X a ta)(hb:PE X b tb):PE X (.BinOp a op b pos) (N7 r ta tb):=by
 intro pins s σ H Q I h
 exact wpAny_BinOp (Mr ha hb I h fun v u s2 x y H2 I2 rx ry q=>ho pins s2 σ H2 x y v u Q I2 rx ry q)
theorem Nn{op:UnaryOp}{r:V->Hp->VK->Prop}(ho:OA X (unaryOp op) r)(ha:PE X a ta):PE X (.UnaryOp op a pos) (Ve r ta):=by
 intro pins s σ H Q I h
 exact UnaryOp_ (fg (ha pins s σ H _ I h) fun v s1 ⟨x,H1,I1,r1,q1⟩=>ho pins s1 σ H1 x v Q I1 r1 q1)
theorem Pb{f:Value->Value->Sem Value}{C:Int->Int->Prop}{g:Int->Int->Int}
  (rule: ∀(i j:Int) (t u:Tok) (s:ai) (Q:Value->ai->Prop) (E:Value->ai->Prop),C i j->Q (.int (g i j) s.toks) {s with toks:=s.toks+1}->wpAny (model X.prog X.w) X.A (f (.int i t) (.int j u)) Q E s):
  pA X f (rI C fun i j=> .int (g i j)):=by
 intro pins s σ H x y v u Q I rx ry h
 obtain⟨i,j,rfl,rfl,hc,q⟩:=h
 obtain⟨t,rfl⟩:=rx
 obtain⟨t',rfl⟩:=ry
 exact rule i j t t' s _ _ hc ⟨.int (g i j),H,I.tok _,⟨_,rfl⟩,q⟩
theorem MS{f:Value->Value->Sem Value}{g:Int->Int->Int}
  (rule: ∀(i j:Int) (t u:Tok) (s:ai) (Q:Value->ai->Prop) (E:Value->ai->Prop),Q (.int (g i j) s.toks) {s with toks:=s.toks+1}->wpAny (model X.prog X.w) X.A (f (.int i t) (.int j u)) Q E s):
  pA X f (JF fun i j=> .int (g i j)):=by
 intro pins s σ H x y v u Q I rx ry h
 obtain⟨i,j,rfl,rfl,q⟩:=h
 obtain⟨t,rfl⟩:=rx
 obtain⟨t',rfl⟩:=ry
 exact rule i j t t' s _ _ ⟨.int (g i j),H,I.tok _,⟨_,rfl⟩,q⟩
theorem Kn{f:Value->Value->Sem Value}{g:Int->Int->Bool}
  (rule: ∀(i j:Int) (t u:Tok) (s:ai) (Q:Value->ai->Prop) (E:Value->ai->Prop),Q (.bool (g i j)) s->wpAny (model X.prog X.w) X.A (f (.int i t) (.int j u)) Q E s):
  pA X f (JF fun i j=> .bl (g i j)):=by
 intro pins s σ H x y v u Q I rx ry h
 obtain⟨i,j,rfl,rfl,q⟩:=h
 obtain⟨t,rfl⟩:=rx
 obtain⟨t',rfl⟩:=ry
 exact rule i j t t' s _ _ ⟨.bl (g i j),H,I,rfl,q⟩
def MQ(i j:Int):Prop:=0 < j/\j < 1073741824
def J_(i j:Int):Prop:=(-(2 ^ 64) < i/\i < 2 ^ 64)\/(-(2 ^ 64) < j/\j < 2 ^ 64)
theorem J_.ok{i j:Int}(h:J_ i j):IntMulOk i j:=by
 rcases h with⟨h1,h2⟩ | ⟨h1,h2⟩
 ·exact .of_left (intBits_le_64 h1 h2)
 ·exact .of_right (intBits_le_64 h1 h2)
theorem LP:pA X (kf .Add) (JF fun i j=> .int (i+j)):=MS fun _ _ _ _ _ _ _ q=>add_int q
theorem LW:pA X (kf .Sub) (JF fun i j=> .int (i - j)):=MS fun _ _ _ _ _ _ _ q=>sub_int q
theorem LH:pA X (kf .Mult) (rI J_ fun i j=> .int (i * j)):=Pb fun _ _ _ _ _ _ _ hc q=>mul_int q hc.ok
theorem JV:pA X (kf .FloorDiv) (rI MQ fun i j=> .int (i / j)):=Pb fun i j _ _ _ _ _ hc q=>by
 have h1:(0:Int) < j:=hc.1
 have h2:j < 1073741824:=hc.2
 exact floordiv_int (by omega) (by rw [Int.fdiv_eq_ediv_of_nonneg i (by omega)]; exact q) (.inl (PyProof.noPylong_small (by omega)))
theorem Lq:pA X (kf .Mod) (rI (fun _ j=>0 < j) fun i j=> .int (i % j)):=Pb fun i j _ _ _ _ _ hc q=>by
 have h1:(0:Int) < j:=hc
 exact mod_int' (by omega) (by rw [Int.fmod_eq_emod_of_nonneg i (by omega)]; exact q)
theorem U_{f:Value->Sem Value}{g:Int->Int}
  (rule: ∀(i:Int) (t:Tok) (s:ai) (Q:Value->ai->Prop) (E:Value->ai->Prop),Q (.int (g i) s.toks) {s with toks:=s.toks+1}->wpAny (model X.prog X.w) X.A (f (.int i t)) Q E s):
  OA X f (rU fun i=> .int (g i)):=by
 intro pins s σ H x v Q I rx h
 obtain⟨i,rfl,q⟩:=h
 obtain⟨t,rfl⟩:=rx
 exact rule i t s _ _ ⟨.int (g i),H,I.tok _,⟨_,rfl⟩,q⟩
theorem LI:OA X (unaryOp .USub) (rU fun i=> .int (-i)):=U_ fun _ _ _ _ _ q=>neg_int q
end
def Nl:V->V->Bool
 | .non, .non=>true | .non, .int _=>true | .int _, .non=>true | .non, .bl _=>true | .bl _, .non=>true | .non, .str _=>true | .str _, .non=>true
 | .int _, .int _=>true | .bl _, .bl _=>true | .str _, .str _=>true | .byt _, .byt _=>true
 | .int _, .str _=>true | .str _, .int _=>true | .bl _, .str _=>true | .str _, .bl _=>true
 | _,_=>false
def U7:R2:=fun x y H Q=>Nl x y=true/\Q (.bl (decide (x=y))) H
def U9:R2:=fun x y H Q=>Nl x y=true/\Q (.bl (!decide (x=y))) H
theorem B0{i j:Int}:decide (V.int i=V.int j)=(i==j):=by
 rw [o_]
 simp
theorem Hk{i j:Bool}:decide (V.bl i=V.bl j)=(i==j):=by
 rw [o_]
 simp
theorem Ce{i j:Str}:decide (V.str i=V.str j)=(i==j):=by
 rw [o_]
 simp
theorem Cv{i j:Array UInt8}:decide (V.byt i=V.byt j)=(i.toList==j.toList):=by
 rw [o_]
 cases i
 cases j
 simp
section
variable {X:Cx}{a b c:Expr}{ta tb tc:TE}{pos:Pos}
theorem dw{pins:List (Addr×Obj)}{σ:St}{H:Hp}{s:ai}{Q:VK}{k k':Bool}(I:Inv X pins σ H s)(q:Q (.bl k) H)(e:k=k'):EP X pins σ Q (.bool k') s:=by
 subst e
 exact⟨.bl k,H,I,rfl,q⟩
theorem Ny:pA X (cP .Eq) U7:=by
 intro pins s σ H x y v u Q I rx ry h
 obtain⟨hs,q⟩:=h
 cases x with
 | non=>
  cases rx
  cases y with
  | non=>cases ry; exact PySem.EqNone.eq_none_none (dw I q (by simp))
  | bl j=>cases ry; exact PySem.EqNone.eq_none_bool (dw I q (by simp))
  | int j=>obtain⟨t',rfl⟩:=ry; exact PySem.EqNone.eq_none_int (dw I q (by simp))
  | str j=>obtain⟨t',rfl⟩:=ry; exact PySem.EqNone.eq_none_str (dw I q (by simp))
  | _=>exact absurd (show false=true from hs) aF
 | bl i=>
  cases rx
  cases y with
  | non=>cases ry; exact PySem.EqNone.eq_bool_none (dw I q (by simp))
  | bl j=>cases ry; exact eq_bool (dw I q Hk)
  | str j=>obtain⟨t',rfl⟩:=ry; exact PySem.EqMixed.eq_bool_str (dw I q (by simp))
  | _=>exact absurd (show false=true from hs) aF
 | int i=>
  obtain⟨t,rfl⟩:=rx
  cases y with
  | non=>cases ry; exact PySem.EqNone.eq_int_none (dw I q (by simp))
  | int j=>obtain⟨t',rfl⟩:=ry; exact eq_int (dw I q B0)
  | str j=>obtain⟨t',rfl⟩:=ry; exact PySem.EqMixed.eq_int_str (dw I q (by simp))
  | _=>exact absurd (show false=true from hs) aF
 | str i=>
  obtain⟨t,rfl⟩:=rx
  cases y with
  | non=>cases ry; exact PySem.EqNone.eq_str_none (dw I q (by simp))
  | bl j=>cases ry; exact PySem.EqMixed.eq_str_bool (dw I q (by simp))
  | int j=>obtain⟨t',rfl⟩:=ry; exact PySem.EqMixed.eq_str_int (dw I q (by simp))
  | str j=>obtain⟨t',rfl⟩:=ry; exact eq_str (dw I q Ce)
  | _=>exact absurd (show false=true from hs) aF
 | byt i=>
  obtain⟨t,rfl⟩:=rx
  cases y with
  | byt j=>obtain⟨t',rfl⟩:=ry; exact PySem.W.eq_bytes (dw I q Cv)
  | _=>exact absurd (show false=true from hs) aF
 | _=>cases y <;> exact absurd (show false=true from hs) aF
theorem MO:pA X (cP .NotEq) U9:=by
 intro pins s σ H x y v u Q I rx ry h
 obtain⟨hs,q⟩:=h
 cases x with
 | non=>
  cases rx
  cases y with
  | non=>cases ry; exact PySem.EqNone.ne_none_none (dw I q (by simp))
  | bl j=>cases ry; exact PySem.EqNone.ne_none_bool (dw I q (by simp))
  | int j=>obtain⟨t',rfl⟩:=ry; exact PySem.EqNone.ne_none_int (dw I q (by simp))
  | str j=>obtain⟨t',rfl⟩:=ry; exact PySem.EqNone.ne_none_str (dw I q (by simp))
  | _=>exact absurd (show false=true from hs) aF
 | bl i=>
  cases rx
  cases y with
  | non=>cases ry; exact PySem.EqNone.ne_bool_none (dw I q (by simp))
  | bl j=>cases ry; exact ne_bool (dw I q (congrArg not Hk))
  | str j=>obtain⟨t',rfl⟩:=ry; exact PySem.EqMixed.ne_bool_str (dw I q (by simp))
  | _=>exact absurd (show false=true from hs) aF
 | int i=>
  obtain⟨t,rfl⟩:=rx
  cases y with
  | non=>cases ry; exact PySem.EqNone.ne_int_none (dw I q (by simp))
  | int j=>obtain⟨t',rfl⟩:=ry; exact ne_int (dw I q (congrArg not B0))
  | str j=>obtain⟨t',rfl⟩:=ry; exact PySem.EqMixed.ne_int_str (dw I q (by simp))
  | _=>exact absurd (show false=true from hs) aF
 | str i=>
  obtain⟨t,rfl⟩:=rx
  cases y with
  | non=>cases ry; exact PySem.EqNone.ne_str_none (dw I q (by simp))
  | bl j=>cases ry; exact PySem.EqMixed.ne_str_bool (dw I q (by simp))
  | int j=>obtain⟨t',rfl⟩:=ry; exact PySem.EqMixed.ne_str_int (dw I q (by simp))
  | str j=>obtain⟨t',rfl⟩:=ry; exact ne_str (dw I q (congrArg not Ce))
  | _=>exact absurd (show false=true from hs) aF
 | byt i=>
  obtain⟨t,rfl⟩:=rx
  cases y with
  | byt j=>obtain⟨t',rfl⟩:=ry; exact PySem.W.ne_bytes (dw I q (congrArg not Cv))
  | _=>exact absurd (show false=true from hs) aF
 | _=>cases y <;> exact absurd (show false=true from hs) aF
theorem ML:pA X (cP .Lt) (JF fun i j=> .bl (decide (i < j))):=Kn fun _ _ _ _ _ _ _ q=>lt_int q
theorem M_:pA X (cP .LtE) (JF fun i j=> .bl (decide (i<=j))):=Kn fun _ _ _ _ _ _ _ q=>le_int q
theorem Nc:pA X (cP .Gt) (JF fun i j=> .bl (decide (j < i))):=Kn fun _ _ _ _ _ _ _ q=>gt_int q
theorem M6:pA X (cP .GtE) (JF fun i j=> .bl (decide (j<=i))):=Kn fun _ _ _ _ _ _ _ q=>ge_int q
theorem J4:pA X (cP .IsNot) (fun x y H Q=>y= .non/\Q (.bl (!decide (x= .non))) H):=by
 intro pins s σ H x y v u Q I rx ry h
 obtain⟨rfl,q⟩:=h
 cases ry
 refine isnot_none_gen (dw I q ?_)
 cases x <;> first
  | (cases rx; rfl)
  | (obtain⟨t,rfl⟩:=rx; rfl)
theorem xY(b:Expr){op:CmpOp}(h:op≠ .In:=by decide)(h2:op≠ .NotIn:=by decide):fU op b=false:=by
 have e1:(op==CmpOp.In)=false:=by cases op <;> first | rfl | exact absurd rfl h
 have e2:(op==CmpOp.NotIn)=false:=by cases op <;> first | rfl | exact absurd rfl h2
 cases b <;> simp [fU,e1,e2]
theorem JB{op:CmpOp}{r:R2}(ho:pA X (cP op) r)(ha:PE X a ta)(hb:PE X b tb)(hm:fU op b=false):PE X (.Compare a [op] [b] pos) (N7 r ta tb):=by
 intro pins s σ H Q I h
 exact wpAny_Compare1 (Mr ha hb I h fun v u s2 x y H2 I2 rx ry q=>ho pins s2 σ H2 x y v u Q I2 rx ry q) hm
def KZ(t:TE):TT:=fun σ H Q=>t σ H fun x H'=> ∃k,x= .bl k/\Q k H'
theorem BO{op:CmpOp}{r:R2}(ho:pA X (cP op) r)(ha:PE X a ta)(hb:PE X b tb)(hm:fU op b=false):PT X (.Compare a [op] [b] pos) (KZ (N7 r ta tb)):=by
 intro pins s σ H Q I h
 refine wpAny_isTrue_Compare1 (fg (ha pins s σ H _ I h) fun v s1 ⟨x,H1,I1,r1,q1⟩=>fg (hb pins s1 σ H1 _ I1 q1) fun u s2 ⟨y,H2,I2,r2,q2⟩=>
  fg (ho pins s2 σ H2 x y v u _ I2 r1 r2 q2) fun c s3 ⟨z,H3,I3,r3,k,e,q3⟩=> ?_) hm
 subst e
 cases r3
 exact fJ ⟨H3,I3,q3⟩
def HP(r r':R2)(ta tb tc:TE):TE:=fun σ H Q=>ta σ H fun x H1=>tb σ H1 fun y H2=>r x y H2 fun z H3=> ∃k,z= .bl k/\
 (if k=true then tc σ H3 fun w' H4=>r' y w' H4 Q else Q (.bl false) H3)
theorem Gd{op op':CmpOp}{r r':R2}(ho:pA X (cP op) r)(ho':pA X (cP op') r')(ha:PE X a ta)(hb:PE X b tb)(hc:PE X c tc)
  (hm:lastMarks [op,op'] [b,c]=false:=by with_unfolding_all rfl):PE X (.Compare a [op,op'] [b,c] pos) (HP r r' ta tb tc):=by
 intro pins s σ H Q I h
 refine Compare_chain (fg (ha pins s σ H _ I h) fun v s1 ⟨x,H1,I1,r1,q1⟩=>chain_link (fg (hb pins s1 σ H1 _ I1 q1) fun u s2 ⟨y,H2,I2,r2,q2⟩=>
  fg (ho pins s2 σ H2 x y v u _ I2 r1 r2 q2) fun d s3 ⟨z,H3,I3,r3,k,e,q3⟩=> ?_)) hm
 subst e
 cases r3
 refine fJ ?_
 cases k with
 | false=>exact ite_ff ⟨.bl false,H3,I3,rfl,q3⟩
 | true=>exact ite_tt (chain_last (fg (hc pins s3 σ H3 _ I3 q3) fun w' s4 ⟨z',H4,I4,r4,q4⟩=>ho' pins s4 σ H4 y z' u w' Q I4 r2 r4 q4))
theorem Hh{op op':CmpOp}{r r':R2}(ho:pA X (cP op) r)(ho':pA X (cP op') r')(ha:PE X a ta)(hb:PE X b tb)(hc:PE X c tc)
  (hm:lastMarks [op,op'] [b,c]=false:=by with_unfolding_all rfl):PT X (.Compare a [op,op'] [b,c] pos) (KZ (HP r r' ta tb tc)):=by
 intro pins s σ H Q I h
 refine isTrue_chain (fg (ha pins s σ H _ I h) fun v s1 ⟨x,H1,I1,r1,q1⟩=>test_link (fg (hb pins s1 σ H1 _ I1 q1) fun u s2 ⟨y,H2,I2,r2,q2⟩=>
  fg (ho pins s2 σ H2 x y v u _ I2 r1 r2 q2) fun d s3 ⟨z,H3,I3,r3,k,e,q3⟩=> ?_)) hm
 subst e
 cases r3
 refine fJ ?_
 cases k with
 | false=>
  obtain⟨k',e',q'⟩:=q3
  cases e'
  exact ite_ff ⟨H3,I3,q'⟩
 | true=>
  refine ite_tt (test_last (fg (hc pins s3 σ H3 _ I3 q3) fun w' s4 ⟨z',H4,I4,r4,q4⟩=>fg (ho' pins s4 σ H4 y z' u w' _ I4 r2 r4 q4) fun d' s5 ⟨z2,H5,I5,r5,k2,e2,q5⟩=> ?_))
  subst e2
  cases r5
  exact fJ ⟨H5,I5,q5⟩
theorem xJ:(sizeLine:Nat) < 2 ^ 63:=by rw [eA]; decide
theorem vals1{x:V}{us:List Value}(r:Vals [x] us): ∃u,us= [u]/\RelV x u:=by
 cases r with
 | cons r1 r2=>cases r2; exact⟨_,rfl,r1⟩
theorem vals2{x y:V}{us:List Value}(r:Vals [x,y] us): ∃u w',us= [u,w']/\RelV x u/\RelV y w':=by
 cases r with
 | cons r1 r2=>
  cases r2 with
  | cons r3 r4=>cases r4; exact⟨_,_,rfl,r1,r3⟩
theorem Dm(hc:X.calm=true):g7 X (.builtin "min") (fun xs H Q=> ∃i j,xs= [.int i, .int j]/\Q (.int (if j < i then j else i)) H):=by
 intro pins s σ H xs us Q I r h
 obtain⟨i,j,rfl,q⟩:=h
 obtain⟨u,w',rfl,⟨t,rfl⟩,⟨t',rfl⟩⟩:=vals2 r
 refine min_two_ints (I.ok.hd hc) fun h' tk k=>⟨_,H,I.kept k, ?_,q⟩
 by_cases hj:j < i
 ·rw [if_pos hj,if_pos hj]; exact⟨_,rfl⟩
 ·rw [if_neg hj,if_neg hj]; exact⟨_,rfl⟩
end
end L2
namespace L2
open PySem PySem.Spec PyProof.Rows
structure A2(h:Heap)(x dx C:Addr)(mA:Str->Option Value):Prop where
 obj:h.get? x=some (gS C dx)
 ns:h.Ns1 dx mA
 ne:dx≠x
theorem CU{h:Heap}{dx:Addr}{mA:Str->Option Value}(n:h.Ns1 dx mA): ∃od,h.get? dx=some od/\ ∀name,yw name od=some (mA name):=by
 obtain⟨o,es,ep,ho,hd,hk,_,hm⟩:=n
 refine⟨o,ho,fun name=> ?_⟩
 have e:=hm name
 unfold nsFind findBy at e
 rw [<-Array.find?_toList]at e
 unfold yw
 rw [hd]
 dsimp only
 split
 ·rename_i y q
  rw [q]at e
  exact congrArg some e
 ·rename_i q
  rw [q]at e
  have a:es.toList.any (·.refKey)=false:=by
   rw [List.any_eq_false]
   intro y hy
   obtain⟨z,t,hkey⟩:=hk y (Array.mem_toList_iff.mp hy)
   simp [DictEntry.refKey,hkey]
  have a': ¬es.toList.any (·.refKey)=true:=by rw [a]; exact aF
  rw [if_neg a']
  exact congrArg some e
theorem A2.look{h:Heap}{x dx C:Addr}{mA:Str->Option Value}(I:A2 h x dx C mA): ∃od,PySem.W.InstAt h x (gS C dx) C (some od)/\ ∀name,yw name od=some (mA name):=
 let⟨od,ho,hl⟩:=CU I.ns
 ⟨od,⟨I.obj,rfl,rfl,ho⟩,hl⟩
section
variable {prog:aq}{w:World}{A:bA}{E:Value->ai->Prop}{s:ai}{K:aT}{x dx C f:Addr}{mA:Str->Option Value}{name:Str}{v:Value}
theorem get_map{expr:Bool}{Q:Value->ai->Prop}(X:K.In s.heap)(I:A2 s.heap x dx C mA)(hg:nU K C name=true)(hh:sS K C=true)
  (ha:br K (.ref C) name=some none)(hv:mA name=some v)(hv':PySem.W.handedIn v=true)(h:Q v {s with toks:=s.toks+1}):
  wpAny (model prog w) A (getAttr (.ref x) name expr) Q E s:=by
 obtain⟨od,J,hl⟩:=I.look
 exact PySem.W.get_value X J (Fe hg).1 (PySem.W.findObj_own hh ha rfl (by rw [hl,hv])) hv' h
theorem Gv{pl:Sem Bool}{Q:Value×List Value->ai->Prop}(X:K.In s.heap)(I:A2 s.heap x dx C mA)(hg:nU K C name=true)
  (hf:br K (.ref C) name=some (some (.ref f)))(ht:jA K (.ref f)=true)(hv:mA name=none)(h:Q (.ref f, [.ref x]) s):
  wpAny (model prog w) A (getMethod (.ref x) name pl) Q E s:=by
 obtain⟨od,J,hl⟩:=I.look
 exact PySem.W.method_fn X J (Fe hg).1 (Fe hg).2 hf (beq_iff_eq.mp ht) (by show(yw name od).map (·.isSome)=some false; rw [hl,hv]; rfl) h
theorem JE{ns:List Str}{Q:Unit->ai->Prop}(X:K.In s.heap)(I:A2 s.heap x dx C mA)
  (hs:br K (.ref C) "__setattr__"=some (some (.builtin "object.__setattr__")))(hp:IU K C=true)(ht:K9 K C name=some none)(hh:sS K C=true)
  (hw:N5 mA ns)(hsz:ns.length<=sizeLine)
  (h: ∀h',A2 h' x dx C (fun y=>if y=name then some v else mA y)->bR dx s.heap h'->Q () {s with heap:=h',toks:=s.toks+2}):
  wpAny (model prog w) A (setAttr (.ref x) name v) Q E s:=by
 obtain⟨od,J,hl⟩:=I.look
 refine PySem.W.set_plain X J hs (PySem.W.osa_open (s:={s with toks:=s.toks+1}) (r:=none) X J hp ht fun b=> ?_)
 obtain⟨cd,hc,hd'⟩:=PySem.W.any_some hh
 have hx:s.heap.get? x=some ⟨.ref C,some dx, .plain, #[]⟩:=I.obj
 refine aa (af (aa (aa (wpAny_loadPart hx (aa (PySem.W.Looks.here (s:={s with toks:=s.toks+1}) (PySem.W.looks_clsIn X hc) ?_))))))
 rw [hd']
 refine af (a:=some dx) (aa (af (aa ?_)))
 refine wpAny_nsSet1 (s:={s with toks:=s.toks+1}) I.ns fun h' hn2 hs2=> ?_
 obtain⟨oD,esD,epD,hoD,hdD,hcD⟩:=hn2.count (PySem.Within.cons name v hw)
 refine aa (wpAny_lookBehind hoD (by rw [hdD]; exact pastItsLine_dict (bE hcD (by rw [aL]; omega))) ?_)
 exact af (h _ ⟨(hs2.2 _ (sQ I.ne)).trans I.obj,hn2,I.ne⟩ hs2)
theorem Gf{R:Result->ai->Prop}{vs:List Value}{kw:List (Str×Value)}(X:K.In s.heap)(hm:K_ K C=true)
  (hi:br K (.ref C) "__init__"=some (some (.ref f)))(hf:PySem.W.typeIn K (.ref f)=some (.type "function"))
  (h:fK (model prog w) (A.under (.builtin "type.__call__" ⟨.ref C::vs,kw⟩)) (.call (.ref f) ⟨.ref (s.heap.objs.size+1)::vs,kw⟩) (PySem.W.InitBack (s.heap.objs.size+1) R)
   {s with heap:=(s.heap.push eT).push (gS C s.heap.objs.size)}):
  fK (model prog w) A (.call (.ref C) ⟨vs,kw⟩) R s:=by
 obtain⟨hh,g,d,t,os⟩:=s
 exact PySem.W.make_core (PySem.W.makes_of X hm) (PySem.W.looks_findIn X hi) (fun self=>PySem.W.bind_fn X self hf) (.inl rfl) h
end
def gE(f:Str)(v:V):List (Str×V)->List (Str×V)
 | []=> [(f,v)]
 | (g,x)::r=>if g=f then(g,v)::r else(g,x)::gE f v r
theorem sg(f g:Str)(v:V): ∀fs:List (Str×V),(gE f v fs).lookup g=if g=f then some v else fs.lookup g
 | []=>by
  show mS g [(f,v)]=_
  by_cases h:g=f
  ·have hb:(g==f)=true:=beq_iff_eq.mpr h
   simp only [mS,hb,if_pos h]
  ·have hb:(g==f)=false:=beq_eq_false_iff_ne.mpr h
   simp only [mS,hb,if_neg h]
 | (k,x)::r=>by
  have ih:=sg f g v r
  rw [show gE f v ((k,x)::r)=(if k=f then(k,v)::r else(k,x)::gE f v r)from rfl]
  by_cases hk:k=f
  ·rw [if_pos hk]
   by_cases h:g=k
   ·have hb:(g==k)=true:=beq_iff_eq.mpr h
    simp only [mS,hb,if_pos (h.trans hk)]
   ·have hb:(g==k)=false:=beq_eq_false_iff_ne.mpr h
    simp only [mS,hb,if_neg (fun e:g=f=>h (e.trans hk.symm))]
  ·rw [if_neg hk]
   by_cases h:g=k
   ·have hb:(g==k)=true:=beq_iff_eq.mpr h
    simp only [mS,hb,if_neg (fun e:g=f=>hk (h.symm.trans e))]
   ·have hb:(g==k)=false:=beq_eq_false_iff_ne.mpr h
    simp only [mS,hb]
    exact ih
theorem rD(f:Str)(v:V): ∀fs:List (Str×V),f∈(gE f v fs).map (·.1)/\ ∀g,g∈fs.map (·.1)->g∈(gE f v fs).map (·.1)
 | []=>⟨by simp [gE],fun g h=>by simp at h⟩
 | (k,x)::r=>by
  obtain⟨i1,i2⟩:=rD f v r
  rw [show gE f v ((k,x)::r)=(if k=f then(k,v)::r else(k,x)::gE f v r)from rfl]
  by_cases hk:k=f
  ·rw [if_pos hk]
   subst hk
   exact⟨by simp,fun g h=>by simpa using h⟩
  ·rw [if_neg hk]
   refine⟨?_,fun g h=> ?_⟩
   ·rw [bx]
    exact cA _ i1
   ·rw [bx]at h ⊢
    rcases aO.mp h with e | e
    ·exact aO.mpr (.inl e)
    ·exact cA _ (i2 g e)
theorem jP(f:Str)(v:V): ∀fs:List (Str×V),(gE f v fs).length<=fs.length+1
 | []=>by simp [gE]
 | (k,x)::r=>by
  have ih:=jP f v r
  rw [show gE f v ((k,x)::r)=(if k=f then(k,v)::r else(k,x)::gE f v r)from rfl]
  by_cases hk:k=f
  ·rw [if_pos hk,aL,aL]; omega
  ·rw [if_neg hk,aL,aL]; omega
theorem v_.some_of{v:V}{o:Option Value}(r:v_ (some v) o): ∃u,o=some u/\RelV v u:=by
 cases o with
 | none=>exact(show False from r).elim
 | some u=>exact⟨u,rfl,r⟩
theorem v_.none_of{o:Option Value}(r:v_ none o):o=none:=by
 cases o with
 | none=>rfl
 | some u=>exact(show False from r).elim
theorem DX{v:V}{u:Value}(r:RelV v u):PySem.W.handedIn u=true:=by
 cases v with
 | non=>cases (show u=aR from r); rfl
 | bl b=>cases (show u=fS b from r); rfl
 | int i=>obtain⟨t,e⟩:=(show ∃t,u=gW i t from r); cases e; rfl
 | str x=>obtain⟨t,e⟩:=(show ∃t,u=Az x t from r); cases e; rfl
 | byt b=>obtain⟨t,e⟩:=(show ∃t,u=Value.bytes b t from r); cases e; rfl
 | flt b=>obtain⟨t,e⟩:=(show ∃t,u=Value.float b t from r); cases e; rfl
 | ref a=>cases (show u=ak a from r); rfl
 | ty n=>cases (show u=cR n from r); rfl
section
variable {P:aq}{w:World}{H H':Hp}{h h':Heap}{a C dx:Addr}{fs fs':List (Str×V)}
theorem oO(eI:pG P w H h)(e:H a=some (.ins C dx fs)): ∃mA,A2 h a dx C mA/\(∀f,v_ (fs.lookup f) (mA f))/\N5 mA (fs.map (·.1))/\fs.length<=1000/\H dx=some (.own a):=by
 obtain⟨d,z,ne,ob,mA,n,r,q⟩:=(show fR P w H h a (.ins C dx fs)from eI a _ e)
 exact⟨mA,⟨ob,n,ne⟩,r,q,z,d⟩
end
structure A9(K:aT)(C:Addr):Prop where
 pg:nU K C Str.empty=true
 hd:sS K C=true
 po:IU K C=true
 sa:br K (.ref C) "__setattr__"=some (some (.builtin "object.__setattr__"))
theorem A9.get{K:aT}{C:Addr}(c:A9 K C)(f:Str):nU K C f=true:=c.pg
def jt(K:aT)(C:Addr)(f:Str):Prop:=br K (.ref C) f=some none
theorem jt.taker{K:aT}{C:Addr}{f:Str}(n:jt K C f):K9 K C f=some none:=by
 unfold K9
 rw [show br K (.ref C) f=some none from n]
 rfl
structure Meth(K:aT)(C:Addr)(m:Str)(f:Addr):Prop where
 at_:br K (.ref C) m=some (some (.ref f))
 fn:jA K (.ref f)=true
 kp:aK K (.ref f)=true
section
variable {X:Cx}{pins:List (Addr×Obj)}{σ:St}{H:Hp}{s:ai}{a C dx:Addr}{fs:List (Str×V)}{f:Str}{v:V}{A:bA}{E:Value->ai->Prop}
theorem Bd{b:Bool}{Q:Value->ai->Prop}(I:Inv X pins σ H s)(e:H a=some (.ins C dx fs))(c:A9 X.K C)(n:jt X.K C f)(l:fs.lookup f=some v)
  (h: ∀u s',Inv X pins σ H s'->RelV v u->Q u s'):wpAny (model X.prog X.w) A (getAttr (.ref a) f b) Q E s:=by
 obtain⟨mA,O,r,_,_,_⟩:=oO I.eI e
 obtain⟨u,hu,ru⟩:=v_.some_of (v:=v) (o:=mA f) (by rw [<-l]; exact r f)
 exact get_map I.kIn O (c.get f) c.hd n hu (DX ru) (h u _ (I.tok _) ru)
theorem A6{m:Str}{g:Addr}{pl:Sem Bool}{Q:Value×List Value->ai->Prop}(I:Inv X pins σ H s)(e:H a=some (.ins C dx fs))(c:A9 X.K C)(k:Meth X.K C m g)(l:fs.lookup m=none)
  (h:Q (.ref g, [.ref a]) s):wpAny (model X.prog X.w) A (getMethod (.ref a) m pl) Q E s:=by
 obtain⟨mA,O,r,_,_,_⟩:=oO I.eI e
 have hn:mA m=none:=v_.none_of (by rw [<-l]; exact r m)
 exact Gv I.kIn O (c.get m) k.at_ k.fn hn h
theorem Bs{y:V}{u:Value}{Q:Unit->ai->Prop}(I:Inv X pins σ H s)(e:H a=some (.ins C dx fs))(c:A9 X.K C)(n:jt X.K C f)(hl:fs.length < 1000)(ry:RelV y u)
  (h: ∀s',Inv X pins σ (upd H a (.ins C dx (gE f y fs))) s'->Q () s'):wpAny (model X.prog X.w) A (setAttr (.ref a) f u) Q E s:=by
 obtain⟨mA,O,r,wi,_,ho⟩:=oO I.eI e
 have hz:(fs.map (·.1)).length<=sizeLine:=by rw [ae,eA]; omega
 refine JE I.kIn O c.sa c.po n.taker c.hd wi hz fun h' O' sb=>h _ ?_
 have hd: ∃o,h'.get? dx=some o:=let⟨o,_,_,e',_⟩:=O'.ns; ⟨o,e'⟩
 refine I.write (x:=a) (e:=dx) (by rw [e]; exact c_) (.inr ho) (fun b q hb z=>(sb.2 b hb).trans z) hd ?_
 refine⟨by rw [cD O.ne]; exact ho, ?_,O.ne,O'.obj,_,O'.ns,fun g=> ?_,fun g hg=> ?_⟩
 ·have:=jP f y fs; omega
 ·show v_ ((gE f y fs).lookup g) (if g=f then some u else mA g)
  rw [sg]
  by_cases q:g=f
  ·rw [if_pos q,if_pos q]; exact ry
  ·rw [if_neg q,if_neg q]; exact r g
 ·by_cases q:g=f
  ·rw [q]; exact(rD f y fs).1
  ·refine(rD f y fs).2 g (wi g fun z=>hg ?_)
   show(if g=f then some u else mA g)=none
   rw [if_neg q]; exact z
theorem Inv.made(I:Inv X pins σ H s):Inv X pins σ (upd (upd H s.heap.objs.size (.own (s.heap.objs.size+1))) (s.heap.objs.size+1) (.ins C s.heap.objs.size []))
  {s with heap:=(s.heap.push eT).push (gS C s.heap.objs.size)}:=by
 have e1:(s.heap.push eT).get? s.heap.objs.size=some eT:=az s.heap rfl
 have e2:((s.heap.push eT).push (gS C s.heap.objs.size)).get? (s.heap.objs.size+1)=some (gS C s.heap.objs.size):=by
  have:=az (s.heap.push eT) (o:=gS C s.heap.objs.size) rfl
  rwa [cO]at this
 have e3:(s.heap.push eT).Ns s.heap.objs.size (fun _=>none):=⟨eT, #[],_,e1,rfl,(fun e he=>absurd he (by simp)),fun _=>rfl⟩
 have I1:=I.laid (a:=s.heap.objs.size) (o:= .own (s.heap.objs.size+1)) (h':=s.heap.push eT) (t':=s.toks) (fun b u q=>ag _ q) (ay _) ⟨_,e1⟩
 refine I1.laid (a:=s.heap.objs.size+1) (o:= .ins C s.heap.objs.size []) (t':=s.toks) (fun b u q=>ag _ q) (kU (cO _ _)) ?_
 have ne:s.heap.objs.size≠s.heap.objs.size+1:=aJ (gz _)
 refine⟨by rw [cD ne,bO],bN _,ne,e2,fun _=>none,(Heap.Ns1.of_empty e3).at fun o q=>ag _ q,fun _=>c_,fun y hy=>absurd rfl hy⟩
theorem JZ{prog:aq}{w:World}{env:Env}{e:Expr}{f:Str}{pos:Pos}{s:ai}{Q:Value->ai->Prop}(hb:j9 e f env (eval e env)=eval e env)
  (h:wpAny (model prog w) A (eval e env) (fun o s₁=>wpAny (model prog w) A (getAttr o f true) Q E s₁) E s):wpAny (model prog w) A (eval (.Attribute e f pos) env) Q E s:=
 Attribute_any_ h (by rw [arm_eval_Attribute,hb])
end
def OH(K:aT)(ta:TE)(f:Str):TE:=fun σ H Q=>ta σ H fun x H1=> ∃a C dx fs v,x= .ref a/\H1 a=some (.ins C dx fs)/\A9 K C/\jt K C f/\fs.lookup f=some v/\Q v H1
def OE(K:aT)(ta tv:TE)(f:Str):TS:=fun D σ H=>tv σ H fun y H1=>ta σ H1 fun x H2=> ∃a C dx fs,x= .ref a/\H2 a=some (.ins C dx fs)/\A9 K C/\jt K C f/\fs.length < 1000/\
 D.nx σ (upd H2 a (.ins C dx (gE f y fs)))
section
variable {X:Cx}{o e value:Expr}{f:Str}{pos pos' tpos:Pos}{ta tv:TE}
theorem Ms(he:PE X e ta)(hb:j9 e f X.env (eval e X.env)=eval e X.env):PE X (.Attribute e f pos) (OH X.K ta f):=by
 intro pins s σ H Q I h
 refine JZ hb (fg (he pins s σ H _ I h) fun u s1 ⟨x,H1,I1,rx,a,C,dx,fs,v,ex,ea,c,n,l,q⟩=> ?_)
 subst ex
 obtain rfl:u=ak a:=rx
 exact Bd I1 ea c n l fun u' s2 I2 ru=>⟨v,H1,I2,ru,q⟩
theorem Hl(ha:PE X o ta)(hv:PE X value tv)(hs:dh value (some (.Attribute o f pos')) pos.line X.env=pure false):PS X (.Assign [.Attribute o f pos'] value pos) (OE X.K ta tv f):=by
 intro pins s σ H D I h
 refine plainObj_wpAny_Assign_Attribute (fg (hv pins s σ H _ I h) fun u s1 ⟨y,H1,I1,ry,q⟩=>fg (ha pins s1 σ H1 _ I1 q) fun ov s2 ⟨x,H2,I2,rx,a,C,dx,fs,ex,ea,c,n,l,q2⟩=> ?_) hs
 subst ex
 obtain rfl:ov=ak a:=rx
 exact Bs I2 ea c n l ry fun s3 I3=>⟨σ,_,I3,q2⟩
end
section
variable {X:Cx}{pins:List (Addr×Obj)}{σ:St}{H:Hp}{s:ai}{A:bA}{E:Value->ai->Prop}{Q:Value->ai->Prop}{c:Value}{b:Bool}
inductive ud(K:aT)(H:Hp):V->Value->Prop where
 | non:ud K H .non (.type "NoneType")
 | bl (x:Bool):ud K H (.bl x) (.type "bool")
 | int (i:Int):ud K H (.int i) (.type "int")
 | str (x:Str):ud K H (.str x) (.type "str")
 | flt (x:UInt64):ud K H (.flt x) (.type "float")
 | lst {a:Addr} {xs:List V} (e:H a=some (.lst xs)):ud K H (.ref a) (.type "list")
 | frz {a:Addr} {o:Obj} {xs:List V} (e:H a=some (.frz o (.lst xs))):ud K H (.ref a) (.type "list")
 | tup {a:Addr} {xs:List V} (e:H a=some (.tup xs)):ud K H (.ref a) (.type "tuple")
 | dK {a:Addr} {kvs:List (Key×V)} (e:H a=some (.dK kvs)):ud K H (.ref a) (.type "dict")
 | dT {a:Addr} {kvs:List (List Key×V)} (e:H a=some (.dT kvs)):ud K H (.ref a) (.type "dict")
 | ins {a C dx:Addr} {fs:List (Str×V)} (e:H a=some (.ins C dx fs)) (cl:A9 K C) (ha:br K (.ref C) "__class__"=some (some (.builtin "object.__class__")))
   (hn:PySem.W.specialIn K (.builtin "object.__class__") "__get__"=some (some (.builtin "getset_descriptor.__get__"))) (htk:PySem.W.takesIn K (.builtin "object.__class__")=some true)
   (hm:eM K C (.type "object")=some true):ud K H (.ref a) (.ref C)
end
end L2
namespace L2
open PySem PySem.Spec PyProof.Rows
structure fI(k:Nat)(A:bA):Prop where
 hd:A.handled=none
 dp:A.depth+3 * k+5 < recursionLimit
 un:A.units+16 * k+200 < cLine
theorem fI.mono{j k:Nat}{A:bA}(r:fI k A)(h:j<=k):fI j A:=⟨r.hd,by have:=r.dp; omega,by have:=r.un; omega⟩
theorem fI.deeper{k:Nat}{A:bA}(r:fI (k+1) A)(env:Env):fI k (A.deeper env):=
 ⟨r.hd,by have:=r.dp; show A.depth+1+3 * k+5 < _; omega,by have:=r.un; show A.units+3+16 * k+200 < _; omega⟩
theorem AM{A:bA}{C:Addr}{us:List Value}{kw:List (Str×Value)}:(A.under (.builtin "type.__call__" ⟨.ref C::us,kw⟩)).depth=A.depth+1:=by
 first | rfl | simp [Around.under,Code.weight,Code.isCreation,Code.isGuard,Code.isCaller,Code.frames,Code.isFrame,guardIds]
theorem AI{A:bA}{C:Addr}{us:List Value}{kw:List (Str×Value)}:(A.under (.builtin "type.__call__" ⟨.ref C::us,kw⟩)).units=A.units+1:=by
 first | rfl | simp [Around.under,Code.cUnits,Code.frames,Code.isFrame]
theorem fI.make{k:Nat}{A:bA}(r:fI (k+1) A)(C:Addr)(us:List Value)(kw:List (Str×Value)):fI k (A.under (.builtin "type.__call__" ⟨.ref C::us,kw⟩)):=
 ⟨r.hd,by have:=r.dp; rw [AM]; omega,by have:=r.un; rw [AI]; omega⟩
theorem fI.depth{k:Nat}{A:bA}(r:fI k A):A.depth < recursionLimit:=by have:=r.dp; omega
def MR:TA:=fun _ H Q=>Q [] H
def Nm(ta:TE)(tr:TA):TA:=fun σ H Q=>ta σ H fun x H1=>tr σ H1 fun xs H2=>Q (x::xs) H2
section
variable {X:Cx}{e:Expr}{es:List Expr}{te:TE}{t:TA}{pos:Pos}
theorem gZ:PA X [] MR:=fun _ _ _ _ H Q I h=>Calls.spliced_nil ⟨[],H,I, .nil,h⟩
theorem eu(ha:PE X e te)(hr:PA X es t)(hs:au (e::es) X.env=(false,eval e X.env)::au es X.env:=by rfl):PA X (e::es) (Nm te t):=by
 intro pos pins s σ H Q I h
 rw [hs]
 show wpAny _ _ (spliced ((false,eval e X.env)::eQ pos (au es X.env))) _ _ s
 refine Calls.spliced_cons (fg (ha pins s σ H _ I h) fun u s1 ⟨x,H1,I1,r1,q1⟩=> ?_)
 exact fg (hr pos pins s1 σ H1 _ I1 q1) fun us s2 ⟨xs,H2,I2,r2,q2⟩=>⟨x::xs,H2,I2, .cons r1 r2,q2⟩
def OO(t:TA):TE:=fun σ H Q=>t σ H fun xs H1=>xs.length<=sizeLine/\ ∀p,H1 p=none->Q (.ref p) (upd H1 p (.tup xs))
def OP(t:TA):TE:=fun σ H Q=>t σ H fun xs H1=>xs.length<=sizeLine/\ ∀p,H1 p=none->Q (.ref p) (upd H1 p (.lst xs))
theorem GS{x1}(h:PA X es t):PE X (.Tuple es x1 pos) (OO t):=by
 intro pins s σ H Q I hq
 refine wpAny_Tuple_spliced (fg (h pos pins s σ H _ I hq) fun us s1 ⟨xs,H1,I1,r,z,q⟩=>⟨by rw [<-r.length]; exact z, ?_⟩)
 have hf:H1 s1.heap.objs.size=none:=I1.eI.fresh (ay _)
 refine⟨.ref s1.heap.objs.size,upd H1 s1.heap.objs.size (.tup xs),I1.laid (t':=s1.toks) (fun b u e=>ag _ e) (ay _) ?_,rfl,q _ hf⟩
 exact⟨z,us,r,⟨_,az _ rfl,rfl,_,rfl⟩⟩
theorem Mf(h:PA X es t):PE X (.List es pos) (OP t):=by
 intro pins s σ H Q I hq
 refine wpAny_List_spliced (fg (h pos pins s σ H _ I hq) fun us s1 ⟨xs,H1,I1,r,z,q⟩=>⟨by rw [<-r.length]; exact z, ?_⟩)
 have hf:H1 s1.heap.objs.size=none:=I1.eI.fresh (ay _)
 refine⟨.ref s1.heap.objs.size,upd H1 s1.heap.objs.size (.lst xs),I1.laid (t':=s1.toks) (fun b u e=>ag _ e) (ay _) ?_,rfl,q _ hf⟩
 exact⟨z,us,0,r,az _ rfl⟩
end
abbrev Sp:=List V->Hp->VK->XK->Prop
abbrev gF:=List Env->Hp->ai->XK->Value->ai->Prop
structure yi(P:aq)(w:World)(K:aT)(mg:Str->Option Value)(base:Heap)(A:bA)(outer:List Env)(s:ai)(H:Hp):Prop where
 frames:A.frames=some outer
 mod:Mod K mg base
 bs: ∀b o,base.get? b=some o->s.heap.get? b=some o/\H b=none
 yH:base.objs.size<=s.heap.objs.size
 mr:s.heap.FunFrames base outer
 AY: ∀b∈uW outer,H b=none
 eI:pG P w H s.heap
 bare:mR s.gens
def CE(outer:List Env)(P:aq)(w:World)(H:Hp)(s:ai)(Q:VK)(u:Value)(s':ai):Prop:=
 ∃v H',s'.os=s.os/\mR s'.gens/\Un (uW outer) [] H H' s.heap s'.heap/\pG P w H' s'.heap/\RelV v u/\Q v H'
def CR(CX:gF)(outer:List Env)(P:aq)(w:World)(H:Hp)(s:ai)(Q:VK)(E:XK)(r:Result)(s':ai):Prop:=
 match r with
 | .ok (.ret u)=>CE outer P w H s Q u s'
 | .ok _=>False
 | .error e=>CX outer H s E e s'
structure nS(P:aq)(w:World)(K:aT)(mg:Str->Option Value)(base:Heap)(CX:gF)(k:Nat)(f:Addr)(fd:bj)(ps:List Str)(sp:Sp):Prop where
 len: ∀vs H Q E,sp vs H Q E->vs.length=ps.length
 run: ∀(A:bA) (outer:List Env) (s:ai) (H:Hp) (args:Args) (us:List Value) (vs:List V) (Q:VK) (E:XK),fI k A->yi P w K mg base A outer s H->xl s fd args (ps.zip us)->Vals vs us->sp vs H Q E->
  fK (model P w) A (.call (.ref f) args) (CR CX outer P w H s Q E) s
theorem nS.imp{P:aq}{w:World}{K:aT}{mg:Str->Option Value}{base:Heap}{CX:gF}{k:Nat}{f:Addr}{fd:bj}{ps:List Str}{sp sp':Sp}(F:nS P w K mg base CX k f fd ps sp)
  (h: ∀vs H Q E,sp' vs H Q E->sp vs H Q E):nS P w K mg base CX k f fd ps sp':=
 ⟨fun vs H Q E q=>F.len vs H Q E (h _ _ _ _ q),fun A outer s H args us vs Q E hr he hb hv hs=>F.run A outer s H args us vs Q E hr he hb hv (h _ _ _ _ hs)⟩
theorem yi.make{P:aq}{w:World}{K:aT}{mg:Str->Option Value}{base:Heap}{A:bA}{outer:List Env}{s:ai}{H:Hp}(e:yi P w K mg base A outer s H)(C:Addr)(us:List Value)(kw:List (Str×Value)):
  yi P w K mg base (A.under (.builtin "type.__call__" ⟨.ref C::us,kw⟩)) outer s H:=⟨by first | exact e.frames | (simpa [Around.under,Code.envs,Code.isFrame,pushEnvs]using e.frames),e.mod,e.bs,e.yH,e.mr,e.AY,e.eI,e.bare⟩
section
variable {X:Cx}{pins:List (Addr×Obj)}{σ:St}{H:Hp}{s s':ai}
theorem Inv.env0(I:Inv X pins σ H s):yi X.prog X.w X.K X.mg X.base X.A X.stack s H:=
 ⟨I.ok.frames,I.ok.mod,I.bs,bE I.ok.yH I.sz,I.stack,I.stkFree,I.eI,I.bare⟩
theorem Inv.after{Q:VK}{u:Value}(I:Inv X pins σ H s)(h:CE X.stack X.prog X.w H s Q u s'):EP X pins σ Q u s':=by
 obtain⟨v,H',os,bare,un,eI,r,q⟩:=h
 obtain⟨hh,g,d,t,os'⟩:=s'
 obtain rfl:os'=s.os:=os
 exact⟨v,H',I.call (h':=hh) (g':=g) (d':=d) (t':=t) (ch:= []) un eI bare (fun b z=>absurd z (by simp)),r,q⟩
end
def MG(sp:Sp)(dvs:List V)(E:XK)(t:TA):TE:=fun σ H Q=>t σ H fun vs H1=>sp (vs ++ dvs) H1 Q E
def MK(C:Addr)(m:Str)(sp:Sp)(dvs:List V)(E:XK)(ta:TE)(t:TA):TE:=fun σ H Q=>ta σ H fun x H1=> ∃a dx fs,x= .ref a/\H1 a=some (.ins C dx fs)/\fs.lookup m=none/\
 t σ H1 fun vs H2=>sp (x::(vs ++ dvs)) H2 Q E
def M5(C:Addr)(sp:Sp)(dvs:List V)(E:XK)(t:TA):TE:=fun σ H Q=>t σ H fun vs H1=> ∀x dx,H1 x=none->H1 dx=none->dx≠x->
 sp (.ref x::(vs ++ dvs)) (upd (upd H1 dx (.own x)) x (.ins C dx [])) (fun v H2=>v= .non/\Q (.ref x) H2) E
def Binds(K:aT)(fd:bj)(ps:List Str)(ds:List Value):Prop:=
 ∀(s:ai) (us:List Value),K.In s.heap->(us ++ ds).length=ps.length->xl s fd ⟨us, []⟩ (ps.zip (us ++ ds))
theorem Binds.all{K:aT}{fd:bj}{ps:List Str}(h: ∀us:List Value,us.length=ps.length->bindArgs fd ⟨us, []⟩=pure (ps.zip us)):Binds K fd ps []:=fun s us _ hl=>by
 rw [bq]at hl ⊢
 exact .of_eq (h us hl)
def Passes(CX:gF)(X:Cx)(E:XK):Prop:= ∀(pins:List (Addr×Obj)) (σ:St) (H:Hp) (s:ai) (e:Value) (s':ai),Inv X pins σ H s->CX X.stack H s E e s'->X.xe e s'
section
variable {X:Cx}{CX:gF}{k:Nat}{f C:Addr}{fd:bj}{ps:List Str}{sp:Sp}{dvs:List V}{ds:List Value}{E:XK}{x m:Str}{p pos apos:Pos}{e o:Expr}{es:List Expr}{ta:TE}{t:TA}
theorem GK{pins:List (Addr×Obj)}{σ:St}{H:Hp}{s:ai}{Q:VK}{us:List Value}{vs:List V}(F:nS X.prog X.w X.K X.mg X.base CX k f fd ps sp)(hr:fI k X.A)(hb:Binds X.K fd ps ds)(hd:Vals dvs ds)(hx:Passes CX X E)
  (I:Inv X pins σ H s)(r:Vals vs us)(h:sp (vs ++ dvs) H Q E):wpAny (model X.prog X.w) X.A (call (.ref f) us) (EP X pins σ Q) X.xe s:=by
 have r2:Vals (vs ++ dvs) (us ++ ds):=r.append hd
 have hl:(us ++ ds).length=ps.length:=by rw [<-r2.length]; exact F.len _ _ _ _ h
 refine yx (jB (F.run X.A X.stack s H ⟨us, []⟩ (us ++ ds) (vs ++ dvs) Q E hr I.env0 (hb s us I.kIn hl) r2 h) fun r s' hq=> ?_)
 cases r with
 | error e=>exact hx pins σ H s e s' I hq
 | ok fl=>
  cases fl with
  | ret u=>exact I.after hq
  | next=>exact cS hq
  | brk=>exact cS hq
  | cont=>exact cS hq
theorem xS(F:nS X.prog X.w X.K X.mg X.base CX k f fd ps sp)(hr:fI k X.A)(hg:Gl X x)(hm:X.mg x=some (.ref f))(hk:aK X.K (.ref f)=true)(hb:Binds X.K fd ps ds)(hd:Vals dvs ds)(hx:Passes CX X E)
  (ha:PA X (e::es) t)(hdb:(x==("__debug__":Str))=false:=by decide)(he:au (e::es) X.env=(false,eval e X.env)::au es X.env:=by rfl)(hpl:(eQ pos (au es X.env)).any (·.1)=false:=by rfl):
  PE X (.Call (.Name x p) (e::es) [] pos) (MG sp dvs E t):=by
 intro pins s σ H Q I h
 refine jf (nt I hg hm ?_ hdb)
 refine rW (h₀:=X.base) I.ok.mod.wR hk (fg (ha pos pins s σ H _ I h) fun us s1 ⟨vs,H1,I1,r,q⟩=>⟨I1.kIn, ?_⟩) he hpl
 exact GK F hr hb hd hx I1 r q
theorem Fh{pl:Sem Bool}(he:PE X o ta)(c:A9 X.K C)(hm:Meth X.K C m f)(F:nS X.prog X.w X.K X.mg X.base CX k f fd ps sp)(hr:fI k X.A)(hb:Binds X.K fd ps ds)(hd:Vals dvs ds)(hx:Passes CX X E)
  (ht:eval (.Call (.Attribute o m apos) [] [] pos) X.env=(do
   let ov<-eval o X.env
   standAt apos.atName
   let(f,first)<-kS [ov] (getMethod ov m pl)
   callWith pos f first (eQ pos (au [] X.env)) (backToKw pos (EW [] X.env))):=by rfl):
  PE X (.Call (.Attribute o m apos) [] [] pos) (MK C m sp dvs E ta MR):=by
 intro pins s σ H Q I h
 refine PySem.W.methodCall_KW (pl:=pl) (fg (he pins s σ H _ I h) fun u s1 ⟨x,H1,I1,rx,a,dx,fs,ex,ea,l,q⟩=> ?_) ht
 subst ex
 obtain rfl:u=ak a:=rx
 refine A6 I1 ea c hm l ?_
 exact PySem.W.callWith_K0 (first:= [.ref a]) I1.kIn hm.kp (GK (us:= [.ref a]) (vs:= [.ref a]) F hr hb hd hx I1 (.cons rfl .nil) q)
structure Mk(K:aT)(C f:Addr):Prop where
 makes:K_ K C=true
 init:br K (.ref C) "__init__"=some (some (.ref f))
 fn:jA K (.ref f)=true
 kp:aK K (.ref C)=true
theorem HA{pins:List (Addr×Obj)}{σ:St}{H:Hp}{s:ai}{Q:VK}{us:List Value}{vs:List V}(M:Mk X.K C f)(F:nS X.prog X.w X.K X.mg X.base CX k f fd ps sp)(hr:fI (k+1) X.A)(hb:Binds X.K fd ps ds)(hd:Vals dvs ds)
  (hx:Passes CX X E)(I:Inv X pins σ H s)(r:Vals vs us)
  (h: ∀x dx,H x=none->H dx=none->dx≠x->sp (.ref x::(vs ++ dvs)) (upd (upd H dx (.own x)) x (.ins C dx [])) (fun v H2=>v= .non/\Q (.ref x) H2) E):
  wpAny (model X.prog X.w) X.A (call (.ref C) us) (EP X pins σ Q) X.xe s:=by
 have hq:=h (s.heap.objs.size+1) s.heap.objs.size (I.eI.fresh (EX _)) (I.eI.fresh (ay _)) (aJ (gz _))
 have I2:=Inv.made (C:=C) I
 have r2:Vals (V.ref (s.heap.objs.size+1)::(vs ++ dvs)) (ak (s.heap.objs.size+1)::(us ++ ds)):= .cons rfl (r.append hd)
 have hl:(ak (s.heap.objs.size+1)::us ++ ds).length=ps.length:=by
  have e:=r2.length
  rw [F.len _ _ _ _ hq]at e
  exact e.symm
 refine yx (Gf (f:=f) I.kIn M.makes M.init (beq_iff_eq.mp M.fn) (jB (F.run _ X.stack _ _ ⟨ak (s.heap.objs.size+1)::us, []⟩ (ak (s.heap.objs.size+1)::(us ++ ds)) _ _ E (hr.make C us [])
  (I2.env0.make C us []) (hb _ (ak (s.heap.objs.size+1)::us) I2.kIn hl) r2 hq) fun r s' hq'=> ?_))
 cases r with
 | error e=>exact hx pins σ _ _ e s' I2 hq'
 | ok fl=>
  cases fl with
  | ret u=>
   obtain⟨v,H',I3,rv,ev,q3⟩:=I2.after hq'
   subst ev
   exact⟨rv,⟨V.ref (s.heap.objs.size+1),H',I3,rfl,q3⟩⟩
  | next=>exact cS hq'
  | brk=>exact cS hq'
  | cont=>exact cS hq'
theorem Jc(M:Mk X.K C f)(F:nS X.prog X.w X.K X.mg X.base CX k f fd ps sp)(hr:fI (k+1) X.A)(hg:Gl X x)(hm:X.mg x=some (.ref C))(hb:Binds X.K fd ps ds)(hd:Vals dvs ds)(hx:Passes CX X E)
  (ha:PA X (e::es) t)(hdb:(x==("__debug__":Str))=false:=by decide)(he:au (e::es) X.env=(false,eval e X.env)::au es X.env:=by rfl)(hpl:(eQ pos (au es X.env)).any (·.1)=false:=by rfl):
  PE X (.Call (.Name x p) (e::es) [] pos) (M5 C sp dvs E t):=by
 intro pins s σ H Q I h
 refine jf (nt I hg hm ?_ hdb)
 refine rW (h₀:=X.base) I.ok.mod.wR M.kp (fg (ha pos pins s σ H _ I h) fun us s1 ⟨vs,H1,I1,r,q⟩=>⟨I1.kIn, ?_⟩) he hpl
 exact HA M F hr hb hd hx I1 r q
end
structure bV(N P:List Str)(sc:Scope):Prop where
 kind:sc.kind= .function
 co:sc.isCoroutine=false
 gen:sc.isGenerator=false
 nd:N.Nodup
 pre:N.take P.length=P
 par: ∀x∈P,sc.names.lookup x=some .local\/sc.names.lookup x=some .cell
 Ml: ∀y∈sc.names,y.2≠ .free
theorem wF{kindOf:Str->Option kg}{x:Str}: ∀{binds:List (Str×Value)} {m:Str->Option Value},(∀v,(x,v)∉binds)->bindL kindOf binds m x=m x
 | [],_,_=>rfl
 | (n,v)::r,m,h=>by
  unfold bindL
  rw [wF fun w hw=>h w (cA _ hw)]
  split
  ·have:x≠n:=by rintro rfl; exact h v ck
   simp [this]
  ·rfl
theorem wH{kindOf:Str->Option kg}{x:Str}: ∀{binds:List (Str×Value)} {m:Str->Option Value},(∀v,(x,v)∉binds)->bindC kindOf binds m x=m x
 | [],_,_=>rfl
 | (n,v)::r,m,h=>by
  unfold bindC
  rw [wH fun w hw=>h w (cA _ hw)]
  split
  ·rfl
  ·have:x≠n:=by rintro rfl; exact h v ck
   simp [this]
theorem wY{kindOf:Str->Option kg}{x:Str}{v:Value}: ∀{P:List Str} {vs:List Value} {i:Nat} {m:Str->Option Value},P.Nodup->P[i]? =some x->vs[i]? =some v->kindOf x=some .local->
  bindL kindOf (P.zip vs) m x=some v
 | [],_,_,_,_,h,_,_=>by simp at h
 | _::_, [],_,_,_,_,h,_=>by simp at h
 | p::P,w::vs,0,m,nd,h1,h2,hk=>by
  simp at h1 h2; subst h1; subst h2
  show bindL kindOf ((p,w)::P.zip vs) m p=_
  unfold bindL
  rw [wF fun v hv=>(eZ.mp nd).1 (pb hv).1,if_pos hk]
  simp
 | p::P,w::vs,i+1,m,nd,h1,h2,hk=>by
  show bindL kindOf ((p,w)::P.zip vs) m x=_
  unfold bindL
  exact wY (i:=i) (eZ.mp nd).2 (by simpa using h1) (by simpa using h2) hk
theorem wB{kindOf:Str->Option kg}{x:Str}{v:Value}: ∀{P:List Str} {vs:List Value} {i:Nat} {m:Str->Option Value},P.Nodup->P[i]? =some x->vs[i]? =some v->kindOf x≠some .local->
  bindC kindOf (P.zip vs) m x=some v
 | [],_,_,_,_,h,_,_=>by simp at h
 | _::_, [],_,_,_,_,h,_=>by simp at h
 | p::P,w::vs,0,m,nd,h1,h2,hk=>by
  simp at h1 h2; subst h1; subst h2
  show bindC kindOf ((p,w)::P.zip vs) m p=_
  unfold bindC
  rw [wH fun v hv=>(eZ.mp nd).1 (pb hv).1,if_neg hk]
  simp
 | p::P,w::vs,i+1,m,nd,h1,h2,hk=>by
  show bindC kindOf ((p,w)::P.zip vs) m x=_
  unfold bindC
  exact wB (i:=i) (eZ.mp nd).2 (by simpa using h1) (by simpa using h2) hk
def start(N:List Str)(vs:List V):St:=vs.map some ++ ik (N.length - vs.length) none
def lC(CX:gF)(P:aq)(w:World)(K:aT)(mg:Str->Option Value)(base:Heap)(N:List Str)(qual:Str)(scope:Scope)(f:Addr)(cd:Value)(A:bA)(outer:List Env)(s:ai)(H:Hp)(E:XK):Cx where
 prog:=P
 w:=w
 K:=K
 mg:=mg
 base:=base
 A:=A.deeper (kM qual scope s.heap.objs.size f cd)
 N:=N
 s₀:=s
 H₀:=H
 env:=kM qual scope s.heap.objs.size f cd
 outer:=outer
 stack:=kM qual scope s.heap.objs.size f cd::outer
 ex:= []
 calm:=true
 fn:=fun _=>true
 pn:= []
 xe:=fun e s'=>wpAny (model P w) (A.deeper (kM qual scope s.heap.objs.size f cd)) (leaving (kM qual scope s.heap.objs.size f cd) e) (fun _ s''=>CX outer H s E e s'') (fun e' s''=>CX outer H s E e' s'') s'
theorem zr{sc:Scope}{n:Nat}{x:Str}(h:sc.names.lookup x=some .cell): ∃c,(cellsFrom n sc.names []).lookup x=some c:=by
 have q:=BB sc.names n [] (.inl h)
 exact Am.mp q
theorem wI{CX:gF}{P:aq}{w:World}{K:aT}{mg:Str->Option Value}{base:Heap}{N ps:List Str}{qual:Str}{scope:Scope}{f:Addr}{cd:Value}{A:bA}{outer:List Env}{s s1:ai}{H:Hp}{E:XK}{us:List Value}{vs:List V}
  (S:bV N ps scope)(hd:A.handled=none)(e0:yi P w K mg base A outer s H)(hl:vs.length=ps.length)(r:Vals vs us)
  (x:InCallC s s.heap.objs.size (bindL (kM qual scope s.heap.objs.size f cd).kindOf (ps.zip us) fun _=>none) (cellsFrom (s.heap.objs.size+1) scope.names []) (bindC (kM qual scope s.heap.objs.size f cd).kindOf (ps.zip us) fun _=>none) s1):
  Inv (lC CX P w K mg base N qual scope f cd A outer s H E) [] (start N vs) H s1:=by
 have hpl:ps.length<=N.length:=by have:=congrArg mT S.pre; rw [bu]at this; omega
 obtain⟨h1,tk,rfl,hk⟩:=x.done
 have noA: ∀b:Addr,b∉(lC CX P w K mg base N qual scope f cd A outer s H E).ex:=fun b z=>absurd (show b∈([]:List Addr)from z) (by simp)
 refine⟨⟨e0.mod,S.kind,rfl,rfl,ay _,fun y z c h1 h2=> ?_,fun y hy=> ?_,fun y c _ h=> ?_,fun _=>hd,Around.frames_deeper e0.frames, .inr ⟨rfl,rfl⟩,fun b z=>absurd z (noA b),e0.bs,e0.yH,fun b _ _=>noA b,fun b z=>absurd z (noA b),e0.mr,e0.AY⟩,
  rfl,e0.bare,Un.kept hk,⟨_,x.toInCall.ns,fun i y v h1 h2 h3=> ?_⟩,fun y c h=>⟨_,x.cell y c h⟩,e0.eI.fresh (ay _),fun y c h=> ?_,fun p hp=>absurd (show p∈([]:List (Addr×Obj))from hp) (by simp),e0.eI.kept hk, ?_⟩
 ·exact name_of_addr x.apart (cQ h1) (cQ h2)
 ·have hy:scope.names.lookup y=some .cell\/scope.names.lookup y=some .free:=hy
  rcases hy with hy | hy
  ·exact zr hy
  ·exact absurd rfl (S.Ml _ (cQ hy))
 ·exact jy (x.above y c (cQ h))
 ·have hi:i < vs.length:=by
   unfold start at h2
   by_cases hi:i < vs.length
   ·exact hi
   ·rw [fv (by simpa using hi)]at h2
    rw [AA]at h2
    split at h2 <;> cases h2
  have ha:vs[i]? =some v:=by
   unfold start at h2
   rw [fG (by simpa using hi),aA]at h2
   cases e:vs[i]? with
   | none=>rw [e]at h2; cases h2
   | some a=>rw [e]at h2; cases h2; rfl
  obtain⟨u,hu,rv⟩:=r.get ha
  have hp:ps[i]? =some y:=by
   rw [<-S.pre,List.getElem?_take_of_lt (by omega)]; exact h1
  have ndP:ps.Nodup:=by rw [<-S.pre]; exact S.nd.sublist (mU _ _)
  refine⟨u,rv, ?_⟩
  rcases S.par y (bg hp)with k | k
  ·exact .inl ⟨k,wY ndP hp hu k⟩
  ·obtain⟨c,e⟩:=zr (n:=s.heap.objs.size+1) k
   refine .inr ⟨.inl k,c,e, ?_⟩
   have q:=x.cell y c e
   rw [wB ndP hp hu (by show scope.names.lookup y≠_; rw [k]; decide)]at q
   exact q
 ·exact e0.eI.fresh (jy (x.above y c (cQ h)))
 ·unfold start
  show _=N.length
  rw [ao,ae,jQ]
  omega
theorem Ae{CX:gF}{P:aq}{w:World}{K:aT}{mg:Str->Option Value}{base:Heap}{k:Nat}{f:Addr}{name qual:Str}{params:Arguments}{body:List Stmt}{scope:Scope}{dV kV doc pm cdv ct oc:Value}{an od:Option Addr}
  {osl:Array (Option Value)}{N ps:List Str}{sp:Sp}(lk:K.lookup f=some ⟨oc,od, .func (aU name qual params body scope dV kV doc pm an cdv ct),osl⟩)(hcd:aQ K cdv qual=true)(S:bV N ps scope)
  (len: ∀vs H Q E,sp vs H Q E->vs.length=ps.length)
  (hbody: ∀(A:bA) (outer:List Env) (s:ai) (H:Hp) (vs:List V) (Q:VK) (E:XK),fI k (A.deeper (kM qual scope s.heap.objs.size f cdv))->sp vs H Q E->
   ∃t,Br (lC CX P w K mg base N qual scope f cdv A outer s H E) body t/\t {nx:=fun _ H'=>Q .non H',rt:=Q} (start N vs) H):
  nS P w K mg base CX (k+1) f (aU name qual params body scope dV kV doc pm an cdv ct) ps sp:=by
 refine⟨len,fun A outer s H args us vs Q E hr e0 hb r hsp=> ?_⟩
 have hl:=len _ _ _ _ hsp
 have KX:K.In s.heap:=e0.mod.wR.keeps fun b o e=>(e0.bs b o e).1
 have lim:s.heap.NoLimit:=e0.mod.nolimit.keeps fun b o e=>(e0.bs b o e).1
 have hkind: ∀y∈ps.zip us,scope.names.lookup y.1=some .local\/(scope.names.lookup y.1=some .cell/\((cellsFrom (s.heap.objs.size+1) scope.names []).lookup y.1).isSome=true):=fun⟨n,v⟩ hy=>by
  rcases S.par n (pb hy).1 with q | q
  ·exact .inl q
  ·exact .inr ⟨q,BB _ _ _ (.inl q)⟩
 refine codeAny_call_function hr.depth (KX _ _ lk) rfl S.co S.gen rfl (PySem.W.codeRec_of KX hcd) (hb _ _ _ _ ?_)
 refine wpAny_newFunctionEnv_cells S.kind hkind fun env he s1 x=> ?_
 subst he
 refine⟨lim.keeps x.toInCall.keep,codeAny_func ?_⟩
 obtain⟨t,ht,hq⟩:=hbody A outer s H vs Q E (hr.deeper _) hsp
 have I:Inv (lC CX P w K mg base N qual scope f cdv A outer s H E) [] (start N vs) H s1:=wI S hr.hd e0 hl r x
 refine bW (ht [] s1 (start N vs) H _ I hq) (fun fl s' hs=> ?_) fun e s' hs=>hs
 have fin: ∀{σ':St} {H':Hp} {v:V} {u:Value},Inv (lC CX P w K mg base N qual scope f cdv A outer s H E) [] σ' H' s'->RelV v u->Q v H'->CE outer P w H s Q u s':=
  fun{σ' H' v u} J rv q=>⟨v,H',J.os,J.bare,J.base,J.eI,rv,q⟩
 cases fl with
 | ret u=>
  obtain⟨v,σ',H',J,rv,q⟩:=hs
  exact fin J rv q
 | next=>
  obtain⟨σ',H',J,q⟩:=hs
  exact fin (v:=V.non) (u:=aR) J rfl q
 | brk=>
  obtain⟨_,_,_,q⟩:=hs
  exact cS q
 | cont=>
  obtain⟨_,_,_,q⟩:=hs
  exact cS q
end L2
namespace L2
open PySem PySem.Spec PyProof.Rows
section
variable {X:Cx}{x:Str}{p pos:Pos}{e:Expr}{es:List Expr}{t:TA}{id T:String}{r:List V->Hp->VK->Prop}
def Ur(r:List V->Hp->VK->Prop)(t:TA):TE:=fun σ H Q=>t σ H fun vs H1=>r vs H1 Q
theorem iy(hc:g7 X (.builtin id) r)(hg:Gl X x)(hm:X.mg x=none)(hv:dE x=some (.builtin id))(ha:PA X (e::es) t)(hn:x≠"__name__":=by decide)(hdb:(x==("__debug__":Str))=false:=by decide)
  (he:au (e::es) X.env=(false,eval e X.env)::au es X.env:=by rfl)(hpl:(eQ pos (au es X.env)).any (·.1)=false:=by rfl):PE X (.Call (.Name x p) (e::es) [] pos) (Ur r t):=by
 intro pins s σ H Q I h
 refine jf (rB I hg hm hv ?_ hn hdb)
 exact PyProof.Rows.callWith_builtin1 (fg (ha pos pins s σ H _ I h) fun us s1 ⟨vs,H1,I1,r1,q1⟩=>hc pins s1 σ H1 vs us Q I1 r1 q1) he hpl
theorem km(hc:g7 X (.type T) r)(hg:Gl X x)(hm:X.mg x=none)(hv:dE x=some (.type T))(ha:PA X (e::es) t)(hn:x≠"__name__":=by decide)(hdb:(x==("__debug__":Str))=false:=by decide)
  (he:au (e::es) X.env=(false,eval e X.env)::au es X.env:=by rfl)(hpl:(eQ pos (au es X.env)).any (·.1)=false:=by rfl):PE X (.Call (.Name x p) (e::es) [] pos) (Ur r t):=by
 intro pins s σ H Q I h
 refine jf (rB I hg hm hv ?_ hn hdb)
 exact kT (fg (ha pos pins s σ H _ I h) fun us s1 ⟨vs,H1,I1,r1,q1⟩=>hc pins s1 σ H1 vs us Q I1 r1 q1) he hpl
end
end L2
namespace HT
open PySem PyProof.Rows
def lexLt:List Int->List Int->Bool
 | [], []=>false
 | [],_::_=>true
 | _::_, []=>false
 | x::xs,y::ys=>if x=y then lexLt xs ys else decide (x < y)
theorem uo(x y:Int)(xs ys:List Int):lexLt (x::xs) (y::ys)=if x=y then lexLt xs ys else decide (x < y):=rfl
theorem wj:lexLt [] []=false:=rfl
theorem tY(y:Int)(ys:List Int):lexLt [] (y::ys)=true:=rfl
theorem uV(x:Int)(xs:List Int):lexLt (x::xs) []=false:=rfl
theorem GA(A:bA)(s:ai)(a:Int)(t:Tok)(c:Int)(u:Tok): ∃e,SeqAt.EqAt A s (.int a t) (.int c u) e/\(e=true↔a=c):=
 ⟨(a==c),SeqAt.EqAt.int_int a t c u,by simp⟩
theorem Hg(A:bA)(s:ai)(a:Int)(t:Tok)(c:Int)(u:Tok)(prog:aq)(w:World)(E:Value->ai->Prop)(Q:Value->ai->Prop)(h:Q (.bool (decide (a < c))) s):
  wpAny (model prog w) A (richCompare .Lt (.int a t) (.int c u)) Q E s:=
 (PyProof.Rows.lt_int h:wpAny (model prog w) A (cP .Lt (.int a t) (.int c u)) Q E s)
section
open PySem.SeqAt
open PySem.AutoSeq1 (wpAny_loadPart')
open PySem.MeetsSeq PySem.MeetsSeq2 PySem.MeetsSeq3
theorem vR(l b:Addr)(items items2:Array Value)(n n2:Nat)(dd dd2:Option Addr)(sl sl2:Array (Option Value))(ns ms:List Int)(hi:jC items.toList ns)(hj:jC items2.toList ms):
  Meets (dF.«tuple.__lt__» ⟨[.ref l, .ref b], []⟩)
   (fun _ R s=>s.heap.get? l=some {cls:= .type "tuple",dict:=dd,data:= .seq items n,slots:=sl}/\s.heap.get? b=some {cls:= .type "tuple",dict:=dd2,data:= .seq items2 n2,slots:=sl2}/\
    R (.ok (.ret (.bool (lexLt ns ms)))) s):=
 .of_wp fun prog w A R s h=>by
  obtain⟨hp,g,d,tk,os⟩:=s; obtain⟨hl,hb,h⟩:=h
  have f2:=iS
  have z1:items.size=ns.length:=by rw [<-hi.length]; simp
  have z2:items2.size=ms.length:=by rw [<-hj.length]; simp
  wp_walk using wpAny_loadPart' hl,wpAny_loadPart' hb,nV _ (fun rest b s'=>b.1=none/\s'=⟨hp,g,d,tk,os⟩/\ ∃(vs ws:List Value) (ns' ms':List Int),rest=vs.zip ws/\
   jC vs ns'/\jC ws ms'/\ns'.length+items2.size=ms'.length+items.size/\R (.ok (.ret (.bool (lexLt ns' ms')))) ⟨hp,g,d,tk,os⟩) _
  case turn=>
   rintro⟨y,x⟩ rest b s' ⟨hb',rfl,vs,ws,ns',ms',hz,hvi,hwi,hlen,hR⟩
   cases hvi with
   | nil=>rw [List.zip_nil_left]at hz; cases hz
   | cons a t hvi'=>
    cases hwi with
    | nil=>rw [List.zip_nil_right]at hz; cases hz
    | cons c u hwi'=>
     rw [rX]at hz
     injection hz with hyx hrest
     injection hyx with hy hx
     subst hy hx
     rw [uo]at hR
     simp only [aL]at hlen
     obtain⟨e,he,hiff⟩:=GA A.in1 ⟨hp,g,d,tk,os⟩ a t c u
     refine aa (he prog w _ _ ?_)
     cases e with
     | true=>
      rw [if_pos (hiff.mp rfl)]at hR
      wp_walk
      exact⟨rfl,rfl,_,_,_,_,hrest,hvi',hwi',by omega,hR⟩
     | false=>
      rw [if_neg (fun q=>absurd (hiff.mpr q) aF)]at hR
      have hri:=Hg A.in1 ⟨hp,g,d,tk,os⟩ a t c u prog w
      wp_walk using hri
      exact⟨_,rfl,by simpa using hR⟩
  case fin=>
   rintro⟨b1,b2⟩ s' ⟨hb',rfl,vs,ws,ns',ms',hz,hvi,hwi,hlen,hR⟩
   simp only at hb'
   subst hb'
   have hv:lexLt ns' ms'=decide (items.size < items2.size):=by
    cases hvi with
    | nil=>
     cases hwi with
     | nil=>
      simp only [dG]at hlen
      rw [wj]
      exact(decide_eq_false (by omega)).symm
     | cons c u hw=>
      simp only [dG,aL]at hlen
      rw [tY]
      exact(decide_eq_true (by omega)).symm
    | cons a t hv=>
     cases hwi with
     | nil=>
      simp only [dG,aL]at hlen
      rw [uV]
      exact(decide_eq_false (by omega)).symm
     | cons c u hw=>
      rw [rX]at hz
      cases hz
   rw [hv]at hR
   wp_walk
   exact⟨_,rfl,by simpa [Builtin.Tuple.tupleCompareSizes]using hR⟩
  case h=>
   exact⟨rfl,rfl,items.toList,items2.toList,ns,ms,rfl,hi,hj,by omega,h⟩
end
section
variable {prog:aq}{w:World}{A:bA}{E:Value->ai->Prop}{s:ai}
theorem Bj{l b:Addr}{items items2:Array Value}{ns ms:List Int}{Q:Value->ai->Prop}(hl:IsTup s.heap l items)(hb:IsTup s.heap b items2)(hi:jC items.toList ns)(hj:jC items2.toList ms)
  (hu:A.units < cLine)(h:Q (.bool (lexLt ns ms)) s):wpAny (model prog w) A (cP .Lt (.ref l) (.ref b)) Q E s:=by
 obtain⟨⟨cls,dd,data,sl⟩,ho,hc,n,hd⟩:=id hl
 obtain⟨⟨cls2,dd2,data2,sl2⟩,ho2,hc2,n2,hd2⟩:=id hb
 simp only at hc hd hc2 hd2
 subst hc hd hc2 hd2
 exact richCompare_meets_room (op:= .Lt) ⟨_,ho,rfl⟩ ⟨_,ho2,rfl⟩ CM PySem.F.entry_tuple_lt (PySem.F.args_tuple_lt_2 _ _) (vR l b items items2 n n2 dd dd2 sl sl2 ns ms hi hj)
  ⟨ho,ho2,show fS (lexLt ns ms)≠Value.notImplemented/\Q (.bool (lexLt ns ms)) s from⟨(fun x=>nomatch x),h⟩⟩ hu
theorem IY{t b:Addr}{vs ws:List Value}{Q:Value->ai->Prop}(ht:IsTup s.heap t vs.toArray)(hb:IsTup s.heap b ws.toArray)(hv:vs≠ [])
  (h1:ws= []->Q (.ref t) s)(h2:ws≠ []->Q (.ref s.heap.objs.size) {s with heap:=s.heap.push {cls:= .type "tuple",data:= .seq (vs ++ ws).toArray}})
  (hsz:vs.length+ws.length<=sizeLine):wpAny (model prog w) A (kf .Add (.ref t) (.ref b)) Q E s:=by
 obtain⟨⟨cls,dd,data,sl⟩,ho,hc,n,hd⟩:=id ht
 obtain⟨⟨cls2,dd2,data2,sl2⟩,ho2,hc2,n2,hd2⟩:=id hb
 simp only at hc hd hc2 hd2
 subst hc hd hc2 hd2
 have e:vs.toArray ++ ws.toArray=(vs ++ ws).toArray:=by simp
 by_cases hw:ws= []
 ·exact BC ⟨_,ho,rfl⟩ ⟨_,ho2,rfl⟩ Kx seq_tuple_add BD AB (An _ _)
   (tuple_addW1 t b vs.toArray ws.toArray n n2 dd dd2 sl sl2 (by simpa using hv) (by simp [hw])) ⟨ho,ho2,h1 hw⟩
 ·refine BC ⟨_,ho,rfl⟩ ⟨_,ho2,rfl⟩ Kx seq_tuple_add BD AB (An _ _)
   (tuple_addW2 t b vs.toArray ws.toArray n n2 dd dd2 sl sl2 (by simpa using hv) (by simpa using hw) (by rw [aC,aC]; exact hsz)) ⟨ho,ho2, ?_⟩
  rw [e]
  exact h2 hw
def iH(n d:Nat):Option Int->Nat
 | none=>d
 | some v=>if v < 0 then(v+(n:Int)).toNat else min v.toNat n
theorem LF(n d:Nat)(hd:d<=n)(o:Option Int):iH n d o<=n:=by
 cases o with
 | none=>exact hd
 | some v=>
  show(if v < 0 then(v+(n:Int)).toNat else min v.toNat n)<=n
  by_cases hv:v < 0
  ·rw [if_pos hv]; omega
  ·rw [if_neg hv]; exact vE _ _
theorem BV(v:Int)(n d:Nat):(if v < 0 then max (v+(n:Int)) 0 else min v (n:Int))=((iH n d (some v):Nat):Int):=by
 show(if v < 0 then max (v+(n:Int)) 0 else min v (n:Int))=(((if v < 0 then(v+(n:Int)).toNat else min v.toNat n):Nat):Int)
 by_cases hv:v < 0
 ·simp only [if_pos hv]; omega
 ·simp only [if_neg hv]; omega
theorem A0(lo hi:Option Int)(n:Nat):yI lo hi 1 (n:Int)=(((iH n 0 lo:Nat):Int),((iH n n hi:Nat):Int)):=by
 have h1: ¬((1:Int) < 0):=by omega
 unfold yI
 simp only [h1,if_false]
 refine Prod.ext ?_ ?_
 ·cases lo with
  | none=>rfl
  | some v=>exact BV v n 0
 ·cases hi with
  | none=>rfl
  | some v=>exact BV v n n
theorem Bk(i j:Nat):mL (i:Int) (j:Int) 1=j - i:=by
 unfold mL
 have h1:(1:Int) > 0:=by omega
 simp only [h1,if_true,Int.ediv_one]
 split <;> omega
theorem uN{v:Value}{o:Option Int}{Q:Option Int->ai->Prop}(p:rY v o)(h:Q o s):wpAny (model prog w) A (Builtin.Slice.slicePartIndex v) Q E s:=by
 cases p with
 | none=>exact slicePart_none h
 | int i t=>exact slicePart_int h
theorem my{sl:Addr}{vl vu:Value}{lo hi:Option Int}{n:Nat}{Q:Int×Int×Nat->ai->Prop}(hs:s.heap.IsSliceOf sl vl vu .none)(pl:rY vl lo)(pu:rY vu hi)
  (h:Q (((iH n 0 lo:Nat):Int),1,iH n n hi - iH n 0 lo) s):wpAny (model prog w) A (Builtin.Slice.sliceApplied (.ref sl) (pure (n:Int))) Q E s:=by
 obtain⟨os,hos,hcs,hds⟩:=id hs
 unfold Builtin.Slice.sliceApplied Builtin.Slice.sliceFields
 refine aa (aa (bK hos hds (x:=vl) rfl (aa (bK hos hds (x:=vu) rfl (aa (bK hos hds (x:= .none) rfl (af ?_)))))))
 refine aa (slicePart_none ?_)
 show wpAny _ _ (if((1:Int)==0)=true then _ else _) _ _ s
 rw [if_neg (by decide)]
 refine aa (uN pl (aa (uN pu (aa (af ?_)))))
 show wpAny _ _ (match yI lo hi 1 (n:Int)with | (lo,hi)=>pure (lo,(1:Int),mL lo hi 1)) _ _ s
 rw [A0 lo hi n]
 show wpAny _ _ (pure (((iH n 0 lo:Nat):Int),(1:Int),mL ((iH n 0 lo:Nat):Int) ((iH n n hi:Nat):Int) 1)) _ _ s
 rw [Bk]
 exact af h
theorem Ha(xs:Array Value)(i k:Nat):((bH k).filterMap fun(m:Nat)=>xs[((i:Int)+(m:Int) * 1).toNat]?).toArray=((xs.toList.drop i).take k).toArray:=by
 have e:(fun(m:Nat)=>xs[((i:Int)+(m:Int) * 1).toNat]?)=fun m=>xs[i+m]? :=by
  funext m
  have:((i:Int)+(m:Int) * 1).toNat=i+m:=by omega
  rw [this]
 rw [e]
 have:=pick_run xs i k
 rw [List.filterMap_map]at this
 have e2:((fun x=>xs[x]?) ∘ fun x=>i+x)=fun m=>xs[i+m]? :=rfl
 rw [e2]at this
 rw [this]
theorem qT{t sl:Addr}{items:Array Value}{vl vu:Value}{lo hi:Option Int}{Q:Value->ai->Prop}(ht:IsTup s.heap t items)(hs:s.heap.IsSliceOf sl vl vu .none)(pl:rY vl lo)(pu:rY vu hi)
  (hw: ¬(iH items.size 0 lo=0/\iH items.size items.size hi=items.size))
  (h:Q (.ref s.heap.objs.size) {s with heap:=s.heap.push {cls:= .type "tuple",data:= .seq ((items.toList.drop (iH items.size 0 lo)).take (iH items.size items.size hi - iH items.size 0 lo)).toArray}})
  (hsz:items.size<=sizeLine):wpAny (model prog w) A (xm (.ref t) (.ref sl)) Q E s:=by
 have htake:sizeOk (.seq ((items.toList.drop (iH items.size 0 lo)).take (iH items.size items.size hi - iH items.size 0 lo)).toArray):=by
  show((items.toList.drop (iH items.size 0 lo)).take (iH items.size items.size hi - iH items.size 0 lo)).toArray.size<=sizeLine
  rw [aC,bu,bI,aj]
  omega
 have hj:iH items.size items.size hi<=items.size:=LF _ _ (ay _) hi
 obtain⟨os,hos,hcs,hds⟩:=id hs
 have hTs:s.TypeIs (.ref sl) "slice":=⟨os,hos,hcs⟩
 unfold xm
 try with_reducible refine bM ?_
 first | refine aa (af ?_) | skip
 refine aa (wpAny_sequenceKey ht.typeIs (by decide) ?_)
 refine aa (cZ (name:=iF "__getitem__") ht.typeIs eF
  (bS eF ht.typeIs entry_tuple_getitem ?_ (args_tuple_getitem _ _)))
 show wpAny _ _ (yy (.ref t) >>=_) _ _ s
 refine aa (tupleItemsOf_ ht ?_)
 refine aa (fL hTs ?_)
 rw [if_pos (by decide)]
 refine aa (my hs pl pu ?_)
 have hno: ¬((((iH items.size 0 lo:Nat):Int)==0&&(1:Int)==1&&(iH items.size items.size hi - iH items.size 0 lo)==items.size)=true):=by
  intro q
  rw [bJ,bJ]at q
  have q1:((iH items.size 0 lo:Nat):Int)=0:=eq_of_beq q.1.1
  have q2:iH items.size items.size hi - iH items.size 0 lo=items.size:=eq_of_beq q.2
  exact hw ⟨by omega,by omega⟩
 show wpAny _ _ (if(((iH items.size 0 lo:Nat):Int)==0&&(1:Int)==1&&(iH items.size items.size hi - iH items.size 0 lo)==items.size)=true then _ else _) _ _ s
 rw [if_neg hno,Ha]
 first
  | exact aa (m:=nH _) (bw (af ⟨_,rfl,af h⟩) htake)
  | exact aa (m:=nH _) (bw (aa (af (af ⟨_,rfl,af h⟩))) htake)
  | exact aa (aa (m:=nH _) (bw (af (af ⟨_,rfl,af h⟩)) htake))
  | exact aa (aa (m:=nH _) (bw (af ⟨_,rfl,af h⟩) htake))
end
end HT
namespace L2
open PySem PySem.Spec PyProof.Rows
abbrev TO:=St->Hp->(Option Int->Hp->Prop)->Prop
def PO(X:Cx)(e:Option Expr)(t:TO):Prop:=
 ∀(pins:List (Addr×Obj)) (s:ai) (σ:St) (H:Hp) (Q:Option Int->Hp->Prop),Inv X pins σ H s->t σ H Q->
  wpAny (model X.prog X.w) X.A (evalPart e X.env) (fun u s'=> ∃o H',Inv X pins σ H' s'/\rY u o/\Q o H') X.xe s
def Je:TO:=fun _ H Q=>Q none H
def Nk(t:TE):TO:=fun σ H Q=>t σ H fun x H1=> ∃i,x= .int i/\Q (some i) H1
theorem intsAre_of{ns:List Int}: ∀{us:List Value},Vals (ns.map V.int) us->jC us ns:=by
 induction ns with
 | nil=>intro us r; rw [sT]at r; cases r; exact .nil
 | cons n ns ih=>
  intro us r
  rw [bx]at r
  cases r with
  | cons r1 r2=>
   obtain⟨t,e⟩:=r1
   subst e
   exact .cons n t (ih r2)
section
variable {X:Cx}{e:Expr}{te:TE}{lo hi:Option Expr}{tl th:TO}{pos p2:Pos}
theorem Kf:PO X none Je:=by
 intro pins s σ H Q I h
 rw [evalPart_none]
 exact af ⟨none,H,I, .none,h⟩
theorem JK(h:PE X e te):PO X (some e) (Nk te):=by
 intro pins s σ H Q I hw
 rw [evalPart_some]
 refine fg (h pins s σ H _ I hw) fun u s1 ⟨x,H1,I1,r1,q1⟩=> ?_
 obtain⟨i,rfl,q⟩:=q1
 obtain⟨t,rfl⟩:=r1
 exact⟨some i,H1,I1, .int i t,q⟩
def O8(X:Cx)(r:V->Option Int->Option Int->Hp->VK->Prop):Prop:=
 ∀(pins:List (Addr×Obj)) (s:ai) (σ:St) (H:Hp) (x:V) (v vl vu:Value) (lo hi:Option Int) (sl:Addr) (Q:VK),Inv X pins σ H s->RelV x v->s.heap.IsSliceOf sl vl vu .none->rY vl lo->rY vu hi->r x lo hi H Q->
  ∃T id,typeLookup (.type T) "__getitem__"=pure (some (.builtin id))/\s.TypeIs v T/\wpAny (model X.prog X.w) X.A (xm v (.ref sl)) (EP X pins σ Q) X.xe s
def U6(r:V->Option Int->Option Int->Hp->VK->Prop)(te:TE)(tl th:TO):TE:=fun σ H Q=>te σ H fun x H1=>tl σ H1 fun l H2=>th σ H2 fun u H3=>r x l u H3 Q
theorem GU{r:V->Option Int->Option Int->Hp->VK->Prop}(hr:O8 X r)(he:PE X e te)(hl:PO X lo tl)(hu:PO X hi th):PE X (.Subscript e (.Slice lo hi none p2) pos) (U6 r te tl th):=by
 intro pins s σ H Q I h
 refine Subscript_ (fg (he pins s σ H _ I h) fun v s1 ⟨x,H1,I1,r1,q1⟩=> ?_)
 refine wpAny_Slice (fg (hl pins s1 σ H1 _ I1 q1) fun vl s2 ⟨l,H2,I2,pl,q2⟩=>fg (hu pins s2 σ H2 _ I2 q2) fun vu s3 ⟨u,H3,I3,pu,q3⟩=> ?_)
 rw [evalPart_none]
 refine af ?_
 have I4:Inv X pins σ H3 {s3 with heap:=s3.heap.push {cls:= .type "slice",data:= .fields #[vl,vu, .none]}}:=I3.kept (t':=s3.toks) fun b ob q=>ag _ q
 obtain⟨T,id,hT,ht,hg⟩:=hr pins {s3 with heap:=s3.heap.push {cls:= .type "slice",data:= .fields #[vl,vu, .none]}} σ H3 x v vl vu l u s3.heap.objs.size Q I4 r1 (Heap.IsSliceOf.new ..) pl pu q3
 show wpAny (model X.prog X.w) X.A (subscriptTail e (.Slice lo hi none p2) v (.ref s3.heap.objs.size)) (EP X pins σ Q) X.xe {s3 with heap:=s3.heap.push {cls:= .type "slice",data:= .fields #[vl,vu, .none]}}
 exact tail_any (ops:= [.ref s3.heap.objs.size,v]) ht hT hg (by with_unfolding_all rfl)
def A4(xs:List V)(lo hi:Option Int):List V:=(xs.drop (HT.iH xs.length 0 lo)).take (HT.iH xs.length xs.length hi - HT.iH xs.length 0 lo)
theorem Af(xs:List V)(lo hi:Option Int):(A4 xs lo hi).length<=xs.length:=by
 unfold A4
 rw [bu,bI]
 omega
def Ot(K:aT):V->Option Int->Option Int->Hp->VK->Prop:=fun x lo hi H Q=> ∃a xs,x= .ref a/\kq K H a xs/\
 ¬(HT.iH xs.length 0 lo=0/\HT.iH xs.length xs.length hi=xs.length)/\ ∀p,H p=none->Q (.ref p) (upd H p (.tup (A4 xs lo hi)))
theorem L8:O8 X (Ot X.K):=by
 intro pins s σ H x v vl vu lo hi sl Q I rx hs pl pu h
 obtain⟨a,xs,rfl,hx,hw,q⟩:=h
 cases rx
 obtain⟨its,r,ht,hz⟩:=I.tuple hx
 have hlen:its.toArray.size=xs.length:=by rw [aC]; exact r.length.symm
 refine⟨"tuple",_,eF.lookup,ht.typeIs, ?_⟩
 refine HT.qT ht hs pl pu (by rw [hlen]; exact hw) ?_ (by rw [hlen]; exact hz)
 rw [hlen]
 refine⟨.ref s.heap.objs.size,_,I.laid (t':=s.toks) (o:= .tup (A4 xs lo hi)) (fun b ob q=>ag _ q) (ay _) ?_,rfl,q _ (I.eI.fresh (ay _))⟩
 exact⟨bE (Af xs lo hi) hz,_,(r.drop (HT.iH xs.length 0 lo)).take (HT.iH xs.length xs.length hi - HT.iH xs.length 0 lo),IsTup.new _ _⟩
def MY(K:aT):R2:=fun x y H Q=> ∃a b xs ys,x= .ref a/\y= .ref b/\kq K H a xs/\kq K H b ys/\xs≠ []/\xs.length+ys.length<=sizeLine/\
 (ys= []->Q (.ref a) H)/\(ys≠ []-> ∀p,H p=none->Q (.ref p) (upd H p (.tup (xs ++ ys))))
theorem Vals.nil_iff{xs:List V}{us:List Value}(r:Vals xs us):us= []↔xs= []:=by
 cases r with
 | nil=>simp
 | cons _ _=>simp
theorem Jh:pA X (kf .Add) (MY X.K):=by
 intro pins s σ H x y v u Q I rx ry h
 obtain⟨a,b,xs,ys,rfl,rfl,ha,hb,hx,hz,q1,q2⟩:=h
 cases rx
 cases ry
 obtain⟨its,r1,p1,_⟩:=I.tuple ha
 obtain⟨its2,r2,p2,_⟩:=I.tuple hb
 refine HT.IY p1 p2 (fun z=>hx (r1.nil_iff.mp z)) (fun z=>⟨.ref a,H,I,rfl,q1 (r2.nil_iff.mp z)⟩) (fun z=> ?_) (by rw [<-r1.length, <-r2.length]; exact hz)
 refine⟨.ref s.heap.objs.size,_,I.laid (t':=s.toks) (o:= .tup (xs ++ ys)) (fun b ob q=>ag _ q) (ay _) ?_,rfl,q2 (fun w=>z (r2.nil_iff.mpr w)) _ (I.eI.fresh (ay _))⟩
 exact⟨by rw [ao]; exact hz,_,r1.append r2,IsTup.new _ _⟩
end
end L2
namespace L2
open PySem PySem.Spec PyProof.Rows
def E_(n:Nat)(i:Int):Option Nat:=if 0<=i then(if i < n then some i.toNat else none)else if -(n:Int)<=i then some (i+n).toNat else none
def wg{α:Type}(xs:List α)(i:Int):Option α:=(E_ xs.length i).bind fun j=>xs[j]?
theorem tf{n:Nat}{i:Int}{j:Nat}(h:E_ n i=some j):seqIndex? i n=some j/\j < n/\ -(n:Int)<=i/\i < n:=by
 unfold E_ at h
 by_cases h0:0<=i
 ·rw [if_pos h0]at h
  by_cases h1:i < n
  ·rw [if_pos h1]at h
   have e:i.toNat=j:=aH h
   exact⟨by rw [seqIndex_of h0 h1,e],by omega,by omega,h1⟩
  ·rw [if_neg h1]at h; cases h
 ·rw [if_neg h0]at h
  by_cases h1: -(n:Int)<=i
  ·rw [if_pos h1]at h
   have e:(i+n).toNat=j:=aH h
   exact⟨by rw [seqIndex_neg (by omega) h1,e],by omega,h1,by omega⟩
  ·rw [if_neg h1]at h; cases h
theorem xW{α:Type}{xs:List α}{i:Int}{v:α}(h:wg xs i=some v): ∃j,seqIndex? i xs.length=some j/\xs[j]? =some v/\j < xs.length/\ -(xs.length:Int)<=i/\i < xs.length:=by
 unfold wg at h
 cases e:E_ xs.length i with
 | none=>rw [e]at h; cases h
 | some j=>
  rw [e]at h
  obtain⟨h1,h2,h3,h4⟩:=tf e
  exact⟨j,h1,h,h2,h3,h4⟩
theorem Jq{α:Type}{xs:List α}{j:Nat}{v:α}(h:xs[j]? =some v):wg xs (j:Int)=some v:=by
 have hj:j < xs.length:=(aI.mp h).1
 have e:E_ xs.length (j:Int)=some j:=by
  unfold E_
  rw [if_pos (by omega),if_pos (by omega)]; simp
 unfold wg; rw [e]; exact h
def qR(b:Expr):Prop:= ∀o i,subscripted b false o i=operate [o,i] (xm o i)
def Oi(X:Cx)(r:R2):Prop:=
 ∀(value slice:Expr) (pins:List (Addr×Obj)) (s:ai) (σ:St) (H:Hp) (x y:V) (v u:Value) (Q:VK),Inv X pins σ H s->RelV x v->RelV y u->r x y H Q->
  subscripted slice false v u=operate [v,u] (xm v u)->wpAny (model X.prog X.w) X.A (subscriptTail value slice v u) (EP X pins σ Q) X.xe s
def Va(X:Cx)(id:String)(r:V->List V->Hp->VK->Prop):Prop:=
 ∀(pins:List (Addr×Obj)) (s:ai) (σ:St) (H:Hp) (x:V) (xs:List V) (v:Value) (us:List Value) (Q:VK),Inv X pins σ H s->RelV x v->Vals xs us->r x xs H Q->
  wpAny (model X.prog X.w) X.A (call (.builtin id) (v::us)) (EP X pins σ Q) X.xe s
section
variable {X:Cx}{a b:Expr}{ta tb:TE}{pos:Pos}
theorem Fo{r:R2}(hr:Oi X r)(ha:PE X a ta)(hb:PE X b tb)(hs:qR b):PE X (.Subscript a b pos) (N7 r ta tb):=by
 intro pins s σ H Q I h
 exact Subscript_ (Mr ha hb I h fun v u s2 x y H2 I2 rx ry q=>hr a b pins s2 σ H2 x y v u Q I2 rx ry q (hs _ _))
def Pc(K:aT):R2:=fun x y H Q=> ∃p xs i v,x= .ref p/\y= .int i/\pU K H p xs/\wg xs i=some v/\Q v H
def O0(K:aT):R2:=fun x y H Q=> ∃p xs i v,x= .ref p/\y= .int i/\kq K H p xs/\wg xs i=some v/\Q v H
theorem J0:Oi X (Pc X.K):=by
 intro value slice pins s σ H x y v u Q I rx ry h hs
 obtain⟨p,xs,i,z,rfl,rfl,hq,he,q⟩:=h
 cases rx
 obtain⟨t,rfl⟩:=ry
 obtain⟨its,r,pl,hz⟩:=I.list hq
 obtain⟨j,h1,h2,h3,h4,h5⟩:=xW he
 obtain⟨w,ew,rw'⟩:=r.get h2
 have hl:=r.length
 have hn:=xJ
 have fin:EP X pins σ Q w s:=⟨z,H,I,rw',q⟩
 by_cases h0:0<=i
 ·have hj:i.toNat=j:=by
   rw [seqIndex_of h0 h5]at h1
   exact aH h1
  exact item_listR pl.isList h0 (by omega) (by rw [hj]; simpa using ew) fin hs
 ·have hj:(i+(its.toArray.size:Int)).toNat=j:=by
   rw [seqIndex_neg (by omega) h4]at h1
   rw [aC, <-hl]
   exact aH h1
  exact BF (x:=w) pl.isList.typeIs slot_list_getitem.lookup
   (wpAny_getItem_list_neg (Q:=fun r s'=>r=w/\EP X pins σ Q r s') pl.isList (by omega) (by rw [aC] <;> omega) (by omega) (by rw [hj]; simpa using ew) ⟨rfl,fin⟩) hs
theorem L9:Oi X (O0 X.K):=by
 intro value slice pins s σ H x y v u Q I rx ry h hs
 obtain⟨p,xs,i,z,rfl,rfl,hq,he,q⟩:=h
 cases rx
 obtain⟨t,rfl⟩:=ry
 obtain⟨its,r,pl,hz⟩:=I.tuple hq
 obtain⟨j,h1,h2,h3,h4,h5⟩:=xW he
 obtain⟨w,ew,rw'⟩:=r.get h2
 have hl:=r.length
 have hn:=xJ
 have fin:EP X pins σ Q w s:=⟨z,H,I,rw',q⟩
 exact BF (x:=w) pl.typeIs slot_tuple_getitem.lookup
  (getItem_tuple (j:=j) (Q:=fun r s'=>r=w/\EP X pins σ Q r s') pl (by omega) (by omega) (by rw [aC, <-hl]; exact h1) (by simpa using ew) ⟨rfl,fin⟩) hs
theorem Be(its:List Value)(n j:Nat)(u:Value):cm (·.setIfInBounds j u) {cls:= .type "list",data:= .seq its.toArray n}={cls:= .type "list",data:= .seq (its.set j u).toArray n}:=by
 simp [cm]
theorem Inv.lst{pins:List (Addr×Obj)}{σ:St}{H:Hp}{s:ai}{p:Addr}{xs:List V}(I:Inv X pins σ H s)(h:H p=some (.lst xs)):
  ∃(its:List Value) (n:Nat),Vals xs its/\s.heap.get? p=some {cls:= .type "list",data:= .seq its.toArray n}/\xs.length<=sizeLine:=by
 obtain⟨z,its,n,r,e⟩:=I.eI p _ h
 exact⟨its,n,r,e,z⟩
theorem Inv.lstUpd{pins:List (Addr×Obj)}{σ:St}{H:Hp}{s:ai}{p:Addr}{xs ys:List V}{its its':List Value}{n n':Nat}{f:Obj->Obj}(I:Inv X pins σ H s)(h:H p=some (.lst xs))
  (ho:s.heap.get? p=some {cls:= .type "list",data:= .seq its.toArray n})(hf:f {cls:= .type "list",data:= .seq its.toArray n}={cls:= .type "list",data:= .seq its'.toArray n'})(r:Vals ys its')(hz:ys.length<=sizeLine)(t:Nat):
  Inv X pins σ (upd H p (.lst ys)) {s with heap:=s.heap.update p f,toks:=t}:=by
 have e:(s.heap.update p f).get? p=some {cls:= .type "list",data:= .seq its'.toArray n'}:=by
  rw [dj f ho (by rw [hf] <;> rfl),hf]
 refine I.write (x:=p) (e:=p) (by rw [h]; trivial) (.inl rfl) (fun b u hb q=>(cB _ _ (sQ hb)).trans q) ⟨_,e⟩ ?_
 exact⟨hz,its',n',r,e⟩
def Ng:V->V->V->Hp->(Hp->Prop)->Prop:=fun o i v H Q=> ∃p xs k j,o= .ref p/\i= .int k/\H p=some (.lst xs)/\E_ xs.length k=some j/\Q (upd H p (.lst (xs.set j v)))
theorem set_list:M9 X Ng:=by
 intro pins s σ H o i v ov iv u Q I ro ri rv h
 obtain⟨p,xs,k,j,rfl,rfl,hp,hj,q⟩:=h
 cases ro
 obtain⟨t,rfl⟩:=ri
 obtain⟨its,n,r,ho,hz⟩:=I.lst hp
 obtain⟨h1,h2,h3,h4⟩:=tf hj
 have hl:=r.length
 have hn:=xJ
 have I':Inv X pins σ (upd H p (.lst (xs.set j v))) {s with heap:=s.heap.update p (cm (·.setIfInBounds j u))}:=
  I.lstUpd hp ho (Be its n j u) (r.set rv j) (by rw [bL]; exact hz) s.toks
 by_cases h0:0<=k
 ·have hk:k.toNat=j:=by
   rw [seqIndex_of h0 h4]at h1
   exact aH h1
  exact PySem.W.ki_setAt ho h0 (by omega) (by rw [aC, <-hl]; exact h4) (by rw [hk]; exact⟨_,I',q⟩)
 ·have hk:(k+(its.toArray.size:Int)).toNat=j:=by
   rw [seqIndex_neg (by omega) h3]at h1
   rw [aC, <-hl]
   exact aH h1
  exact PySem.W.ki_setBack ho (by omega) (by rw [aC, <-hl]; exact h3) (by omega) (by rw [hk]; exact⟨_,I',q⟩)
theorem xC:g7 X (.builtin "len") (fun xs H Q=> ∃p ys,xs= [.ref p]/\(pU X.K H p ys\/kq X.K H p ys)/\Q (.int ys.length) H):=by
 intro pins s σ H xs us Q I r h
 obtain⟨p,ys,rfl,hq,q⟩:=h
 obtain⟨u,rfl,rx⟩:=vals1 r
 cases rx
 have hn:=xJ
 rcases hq with hq | hq
 ·obtain⟨its,r',pl,hz⟩:=I.list hq
  have hlen:=r'.length
  exact Calls.call_len_list pl.isList (by simp only [aC] <;> omega) ⟨.int ys.length,H,I.tok _,⟨s.toks+1,by rw [aC,hlen]⟩,q⟩
 ·obtain⟨its,r',pl,hz⟩:=I.tuple hq
  have hlen:=r'.length
  exact len_tuple pl (by simp only [aC] <;> omega) ⟨.int ys.length,H,I.tok _,⟨s.toks+1,by rw [aC,hlen]⟩,q⟩
theorem yn:g7 X (.type "list") (fun xs H Q=> ∃p ys,xs= [.ref p]/\(pU X.K H p ys\/kq X.K H p ys)/\ ∀l,H l=none->Q (.ref l) (upd H l (.lst ys))):=by
 intro pins s σ H xs us Q I r h
 obtain⟨p,ys,rfl,hq,q⟩:=h
 obtain⟨u,rfl,rx⟩:=vals1 r
 cases rx
 have fin: ∀(its:List Value),Vals ys its->ys.length<=sizeLine-> ∀(h':Heap) (c':Nat),(∀b o',s.heap.get? b=some o'->h'.get? b=some o')->
   h'.get? s.heap.objs.size=some {cls:= .type "list",dict:=none,data:= .seq its.toArray c',slots:= #[]}->EP X pins σ Q (.ref s.heap.objs.size) {s with heap:=h'}:=fun its r' hz h' c' kp e=>
  ⟨.ref s.heap.objs.size,_,I.laid (t':=s.toks) kp (ay _) (show fR X.prog X.w _ h' _ (.lst ys)from⟨hz,its,c',r',e⟩),rfl,q _ (I.eI.fresh (ay _))⟩
 rcases hq with hq | hq
 ·obtain⟨its,r',pl,hz⟩:=I.list hq
  have hlen:=r'.length
  obtain⟨o,ho,hc,n,hd⟩:=pl.isList
  exact call_list_seq p (.inl rfl) ho hc hd (fun h' c' kp e=>fin its r' hz h' c' kp e) (by simp only [aC] <;> omega)
 ·obtain⟨its,r',pl,hz⟩:=I.tuple hq
  have hlen:=r'.length
  obtain⟨o,ho,hc,n,hd⟩:=pl
  exact call_list_seq p (.inr rfl) ho hc hd (fun h' c' kp e=>fin its r' hz h' c' kp e) (by simp only [aC] <;> omega)
theorem vY:g7 X (.type "tuple") (fun xs H Q=> ∃p ys,xs= [.ref p]/\((pU X.K H p ys/\ ∀l,H l=none->Q (.ref l) (upd H l (.tup ys)))\/(kq X.K H p ys/\Q (.ref p) H))):=by
 intro pins s σ H xs us Q I r h
 obtain⟨p,ys,rfl,h⟩:=h
 obtain⟨u,rfl,rx⟩:=vals1 r
 cases rx
 rcases h with⟨hq,q⟩ | ⟨hq,q⟩
 ·obtain⟨its,r',pl,hz⟩:=I.list hq
  have hlen:=r'.length
  refine call_tuple_list pl.isList (fun h' kp=> ?_) (by simp only [aC] <;> omega)
  have I1:Inv X pins σ H {s with heap:=h'}:=I.kept (t':=s.toks) kp
  have I2:Inv X pins σ (upd H h'.objs.size (.tup ys)) {s with heap:=h'.push {cls:= .type "tuple",data:= .seq its.toArray}}:=
   I1.laid (t':=s.toks) (fun b o e=>ag _ e) (ay _) (show fR X.prog X.w _ _ _ (.tup ys)from⟨hz,its,r',IsTup.new _ _⟩)
  exact⟨.ref h'.objs.size,_,I2,rfl,q _ (I1.eI.fresh (ay _))⟩
 ·obtain⟨its,r',pl,hz⟩:=I.tuple hq
  exact call_tuple_same pl ⟨.ref p,H,I,rfl,q⟩
def Uu(K:aT)(T:String)(x:V)(H:Hp):Prop:=match x with
 | .str _=>T="str"
 | .int _=>T="int"
 | .ref p=>(T="list"/\ ∃xs,pU K H p xs)\/(T="tuple"/\ ∃o,K.lookup p=some o/\o.cls= .type "tuple"/\o.dict=none)\/
   (T="dict"/\((∃kvs,H p=some (.dK kvs))\/ ∃kvs,H p=some (.dT kvs)))\/(T="set"/\ ∃S n,H p=some (.set S n))
 | _=>False
theorem LR{pins:List (Addr×Obj)}{σ:St}{H:Hp}{s:ai}{T:String}{x:V}{v:Value}(I:Inv X pins σ H s)(r:RelV x v)(ty:Uu X.K T x H):
  s.TypeIs v T/\ ∀a,v= .ref a-> ∃ob,s.heap.get? a=some ob/\ob.dict=none:=by
 cases x with
 | str z=>
  obtain⟨t,rfl⟩:=r
  cases (show T="str" from ty)
  exact⟨typeIs_str s z t,fun _ e=>nomatch e⟩
 | int i=>
  obtain⟨t,rfl⟩:=r
  cases (show T="int" from ty)
  exact⟨typeIs_int s i t,fun _ e=>nomatch e⟩
 | ref p=>
  cases r
  rcases ty with⟨rfl,xs,hq⟩ | ⟨rfl,o,hk,hc,hd⟩ | ⟨rfl,hk⟩ | ⟨rfl,S,n,hk⟩
  ·obtain⟨its,_,pl,_⟩:=I.list hq
   refine⟨pl.isList.typeIs,fun a e=> ?_⟩
   cases e
   obtain⟨o,n,e,c,hd,_⟩:=pl
   exact⟨o,e,hd⟩
  ·refine⟨⟨o,I.kIn p o hk,hc⟩,fun a e=> ?_⟩
   cases e
   exact⟨o,I.kIn _ o hk,hd⟩
  ·have z: ∃o,s.heap.get? p=some o/\o.ExactDict:=by
    rcases hk with⟨kvs,hk⟩ | ⟨kvs,hk⟩
    ·obtain⟨_,_,_,_,o,_,_,e,ex,_⟩:=I.eI p _ hk
     exact⟨o,e,ex⟩
    ·obtain⟨_,_,_,_,o,_,_,e,ex,_⟩:=I.eI p _ hk
     exact⟨o,e,ex⟩
   obtain⟨o,e,ex⟩:=z
   refine⟨⟨o,e,ex.1⟩,fun a e2=> ?_⟩
   cases e2
   exact⟨o,e,ex.2.1⟩
  ·obtain⟨o,_,_,_,e,ex,_⟩:=I.eI p _ hk
   refine⟨⟨o,e,ex.1⟩,fun a e2=> ?_⟩
   cases e2
   exact⟨o,e,ex.2.1⟩
 | _=>exact cS ty
def U8(K:aT)(T:String)(r:V->List V->Hp->VK->Prop)(to:TE)(t:TA):TE:=fun σ H Q=>to σ H fun x H1=>Uu K T x H1/\t σ H1 fun xs H2=>r x xs H2 Q
variable {o e:Expr}{es:List Expr}{to:TE}{t:TA}{name:Str}{apos cpos:Pos}{T id:String}{r:V->List V->Hp->VK->Prop}
theorem Im(pa:PlainAttrs T)(slot:Slot T name id)(hty:typeOf (.builtin id)=pure (.type "method_descriptor"))(hm:Va X id r)(ho:PE X o to)(ha:PA X (e::es) t)
  (hbase:j9 o name X.env (eval o X.env)=eval o X.env:=by rfl)
  (hfew:((eQ cpos (au (e::es) X.env)).all (fun x=> !x.1)&&(backToKw cpos (EW [] X.env)).all (fun x=>x.1.isSome)
   &&decide ((e::es).length+([]:List Keyword).length+(if([]:List Keyword).isEmpty then 0 else 1) < 30))=true:=by rfl)
  (hline:(apos.endLine==cpos.line)=true:=by rfl)(hs:au (e::es) X.env=(false,eval e X.env)::au es X.env:=by rfl)(hplain:(eQ cpos (au es X.env)).any (·.1)=false:=by rfl):
  PE X (.Call (.Attribute o name apos) (e::es) [] cpos) (U8 X.K T r to t):=by
 intro pins s σ H Q I h
 refine wpAny_Call_method_late hbase hfew hline rfl (fg (ho pins s σ H _ I h) fun v s1 ⟨x,H1,I1,r1,ty,q1⟩=> ?_)
 obtain⟨h1,h2⟩:=LR I1 r1 ty
 refine⟨T,id,pa,slot,hty,h1,h2, ?_⟩
 have hA:=ha cpos pins s1 σ H1 _ I1 q1
 rw [hs]at hA ⊢
 refine Calls.callWith_builtin (by show(false || (eQ cpos (au es X.env)).any (·.1))=false; rw [hplain] <;> rfl) (Calls.evalArgs_plain ?_)
 exact fg hA fun us s2 ⟨vs,H2,I2,r2,q2⟩=>hm pins s2 σ H2 x vs v us Q I2 r1 r2 q2
end
end L2
namespace L2
open PySem PySem.Spec PyProof.Rows
def Og(X:Cx)(id:String)(r:V->List V->Hp->VK->Prop):Prop:=
 ∀(pins:List (Addr×Obj)) (s:ai) (σ:St) (H:Hp) (x:V) (xs:List V) (v:Value) (us:List Value) (Q:VK),Inv X pins σ H s->RelV x v->Vals xs us->r x xs H Q->
  wpAny (model X.prog X.w) X.A (call (.builtin id) (v::us)) (EP X pins σ Q) X.xe s
theorem Vals.one: ∀{x:V} {us:List Value},Vals [x] us-> ∃u,us= [u]/\RelV x u
 | _,_, .cons r .nil=>⟨_,rfl,r⟩
theorem Vals.eraseIdx: ∀{xs:List V} {us:List Value} (i:Nat),Vals xs us->Vals (xs.eraseIdx i) (us.eraseIdx i)
 | _,_,_, .nil=> .nil
 | _,_,0, .cons _ t=>t
 | _,_,i+1, .cons r t=> .cons r (Vals.eraseIdx i t)
theorem wK{α:Type}: ∀(l:List α) (i:Nat),(l.eraseIdx i).length<=l.length
 | [],_=>ay _
 | _::_,0=>EX _
 | _::r,i+1=>Nat.succ_le_succ (wK r i)
section
variable {X:Cx}{pins:List (Addr×Obj)}{σ:St}{H:Hp}{s:ai}{l b:Addr}{xs ys zs:List V}
theorem Inv.lset{its its':List Value}{n:Nat}{f:Array Value->Array Value}{t':Nat}(I:Inv X pins σ H s)(hH:H l=some (.lst xs))
  (e:s.heap.get? l=some {cls:= .type "list",data:= .seq its.toArray n})(hf:f its.toArray=its'.toArray)(hv:Vals ys its')(hz:ys.length<=sizeLine):
  Inv X pins σ (upd H l (.lst ys)) {s with heap:=s.heap.update l (cm f),toks:=t'}:=by
 have q:=PySem.IsL.update e f
 rw [hf]at q
 refine I.write (x:=l) (e:=l) (by rw [hH]; exact trivial) (.inl rfl) (fun b' u hb hu=>(cB s.heap (cm f) (sQ hb)).trans hu) ⟨_,q⟩ ?_
 exact⟨hz,its',_,hv,q⟩
theorem Inv.lnew{its:List Value}{t':Nat}(I:Inv X pins σ H s)(hv:Vals ys its)(hz:ys.length<=sizeLine):
  Inv X pins σ (upd H s.heap.objs.size (.lst ys)) {s with heap:=s.heap.push {cls:= .type "list",data:= .seq its.toArray},toks:=t'}:=
 I.laid (fun _ _ q=>ag _ q) (ay _) ⟨hz,its,0,hv,az _ rfl⟩
theorem Inv.fresh(I:Inv X pins σ H s):H s.heap.objs.size=none:=I.eI.fresh (ay _)
theorem Inv.lstM(I:Inv X pins σ H s)(hH:H l=some (.lst xs)):xs.length<=sizeLine/\ ∃(its:List Value) (n:Nat),Vals xs its/\xs.length=its.length/\s.heap.get? l=some {cls:= .type "list",data:= .seq its.toArray n}:=by
 obtain⟨z,its,n,r,e⟩:=I.eI l _ hH
 exact⟨z,its,n,r,r.length,e⟩
theorem Hm{n:Nat}(h:n<=sizeLine):iT n=false:=by
 unfold iT
 exact decide_eq_false (by omega)
end
section
variable {X:Cx}
def Kp:V->List V->Hp->VK->Prop:=fun x vs H Q=> ∃l xs y,x= .ref l/\vs= [y]/\H l=some (.lst xs)/\xs.length < sizeLine/\Q .non (upd H l (.lst (xs ++ [y])))
theorem oX:Og X "list.append" Kp:=by
 intro pins s σ H x vs v us Q I rx rv h
 obtain⟨l,xs,y,rfl,rfl,hH,hz,q⟩:=h
 cases rx
 obtain⟨u,rfl,ru⟩:=rv.one
 obtain⟨z,its,n,r,hl,e⟩:=I.lstM hH
 refine call_meets F.slot_list_append ⟨_,e,rfl⟩ F.entry_list_append (F.args_list_append_2 _ _) (PySem.list_append l its.toArray n u (by rw [aC]; omega)) ⟨e, ?_⟩
 refine⟨.non,_,I.lset (its':=its ++ [u]) hH e (by simp) (r.append (.cons ru .nil)) ?_,rfl,q⟩
 rw [ao,fz]
 omega
def LB:V->List V->Hp->VK->Prop:=fun x vs H Q=> ∃l xs i k y,x= .ref l/\vs= [.int i]/\H l=some (.lst xs)/\ -(2 ^ 63)<=i/\i < 2 ^ 63/\seqIndex? i xs.length=some k/\xs[k]? =some y/\Q y (upd H l (.lst (xs.eraseIdx k)))
theorem FX:Og X "list.pop" LB:=by
 intro pins s σ H x vs v us Q I rx rv h
 obtain⟨l,xs,i,k,y,rfl,rfl,hH,h1,h2,hk,hy,q⟩:=h
 cases rx
 obtain⟨u,rfl,ru⟩:=rv.one
 obtain⟨t,rfl⟩:=ru
 obtain⟨z,its,n,r,hl,e⟩:=I.lstM hH
 obtain⟨w,hw,rw'⟩:=r.get hy
 refine call_meets F.slot_list_pop ⟨_,e,rfl⟩ F.entry_list_pop (F.args_list_pop_2 _ _)
  (MeetsSeq.list_pop_at l its.toArray n i t k w (fitsIndex_both h1 h2) (by rw [aC, <-hl]; exact hk) (by rw [<-bD]; exact hw) (by rw [aC]; omega)) ⟨e, ?_⟩
 refine⟨y,_,I.lset (its':=its.eraseIdx k) hH e ?_ (r.eraseIdx k) ?_,rw',q⟩
 ·show its.toArray.eraseIdxIfInBounds k=(its.eraseIdx k).toArray
  rw [List.eraseIdxIfInBounds_toArray]
 ·have:=wK xs k
  omega
end
end L2
namespace Att
open PySem PySem.W PySem.Calls PyProof.Rows
theorem sM{P:Params}{h:Heap}: ∀(ns:List Int) (vs:List Value),WellAll P h vs (ns.map WData.int)->jC vs ns:=by
 intro ns
 induction ns with
 | nil=>
  intro vs w
  rw [sT]at w
  cases w
  exact .nil
 | cons n ns ih=>
  intro vs w
  rw [bx]at w
  cases w with
  | cons a b=>
   cases a
   exact .cons _ _ (ih _ b)
theorem DJ{l:OpenLaw}{n:Nat}(hn:l.most=some n){P:Params}{h:Heap}{args:List WData}{vals:List Value}
  (hpre:l.row.toRowW.claim.pre args=true)(hwl:WellAll P h vals args):
  ∃a vs ns,vals= [ak a]/\args= [WData.list (ns.map WData.int)]/\h.get? a=some {cls:= .type "list",data:= .seq vs.toArray}/\jC vs ns/\ns.length<=n:=by
 have hsh:WShape.hasAll [] args [.list .int]=true:=(pre_splitW hpre).1
 have hc:l.pre.holds [] {args:=args}=true:=(pre_splitW hpre).2
 obtain⟨d,r,rfl,h1,h2⟩:=hasAllW_cons hsh
 obtain rfl:=hasAllW_nil h2
 obtain⟨xs,rfl,h3⟩:=hasW_list h1
 obtain⟨ns,rfl⟩:=items_int h3
 have hlen:ns.length<=n:=by
  unfold OpenLaw.pre at hc
  have h4:(WTm.not (.lt (.lit (.int (n:Int))) (.len (.arg 0)))).holds [] {args:= [.list (ns.map .int)]}=true:=by
   have h4:=(holds_andW hc).1
   rw [hn]at h4
   exact h4
  have h5:=condW_of h4 (w_not (w_lt w_lit (w_len_list (w_arg rfl))))
  rw [ae]at h5
  refine vF fun q=> ?_
  have q':(n:Int) < ((ns.length:Nat):Int):=by omega
  first
   | (rw [decide_eq_true q']at h5; exact absurd h5 (by decide))
   | (simp at h5; omega)
 cases hwl with
 | cons w1 w2=>
  cases w2
  cases w1 with
  | list ho hall=>exact⟨_,_,ns,rfl,rfl,ho,sM ns _ hall,hlen⟩
theorem DU(l:OpenLaw)(args:List WData):l.row.toRowW.claim.post args (.bool true) args=true:=
 postW_of (r:=l.row.toRowW) (X:=(true==true))
  (show WShape.has [] (.bool true) .bool=true by first | rfl | decide | simp [WShape.has,WShape.arms,WShape.armsAll])
  (show(WTm.eq .res (.lit (.bool true))).value [] {args:=args,res:=some (.bool true),after:=args}=some (.bool (true==true))from w_eq_bool (w_res rfl) w_lit) rfl
theorem zK{l:OpenLaw}{n:Nat}{q:aq}{loose:List Str}{XP:(Str->Option Value)->Heap->Prop}{YP:World->Heap->Prop}{d:DefRec}
  (hn:l.most=some n)(hdf:d.params.defaults= [])
  (call: ∀(w:World) (s₀ s₁:ai) (mg mb:Str->Option Value) (fa:Addr) (o:Obj) (pm cd doc:Value) (a:Addr) (vs:List Value) (ns:List Int),
   Ground q loose [] XP w s₀ mg mb s₁.heap->YP w s₁.heap->
   s₁.heap.get? fa=some o->o.data= .func (docDef d.name d.params d.body d.scope pm cd doc)->s₁.heap.CodeRec cd d.name->mg d.name=some (.ref fa)->
   s₁.heap.get? a=some {cls:= .type "list",data:= .seq vs.toArray}->jC vs ns->ns.length<=n->s₁.gens= #[]->
   fK (model l.prog w) sU (.call (.ref fa) ⟨[.ref a], []⟩) (fun r s'=>r= .ok (.ret (.bool true))/\OldK s₁.heap s'.heap/\s'.os=s₁.os/\mR s'.gens) s₁):
  WalkO q loose XP YP l.row.toRowW d [] (fun f vs=>PySem.call f vs):=by
 intro w s₀ s₁ mg mb G Y fa o pm cd doc dV kV ho hd hcd hD hmg hg args vals as hpre hlay hrd hwl hlo
 obtain rfl:dV= .none:=Dflts.none hD hdf
 obtain rfl:kV= .none:=Dflts.noKw hD
 obtain⟨a,vs,ns,rfl,rfl,hobj,hints,hlen⟩:=DJ hn hpre hwl
 refine enter_call (jB (call w s₀ s₁ mg mb fa o pm cd doc a vs ns G Y ho (fd_plain hd) hcd hmg hobj hints hlen hg) fun r s' hq=> ?_)
 obtain⟨rfl,h2,h3,h4⟩:=hq
 exact⟨.inl ⟨.bool true, .bool true, [],rfl,fun _=>rfl, .bool true,DU l _,fun _=>⟨eU,fun _ hm=>(nomatch hm)⟩⟩,h2,h3,h4⟩
end Att
namespace L2
open PySem PySem.Spec PyProof.Rows
theorem wD: ∀{vs:List Value} {ns:List Int},jC vs ns->Vals (ns.map V.int) vs
 | _,_, .nil=> .nil
 | _,_, .cons n t h=> .cons ⟨t,rfl⟩ (wD h)
def Lm(H:Hp):Prop:= ∀b,H b=none\/ ∃o xs,H b=some (.frz o (.lst xs))
theorem Ge{P:aq}{w:World}{K:aT}{mg mb:Str->Option Value}{CX:gF}{k:Nat}{fa a:Addr}{fd:bj}{x:Str}{sp:Sp}{s₁:ai}{vs:List Value}{ns:List Int}
  (KX:K.In s₁.heap)(hns:s₁.heap.Ns ax mg)(hb:s₁.heap.Ns builtinsNs mb)(hbb: ∀x:Str,x≠"__name__"->mb x=dE x)(hlim:s₁.heap.NoLimit)(hg:s₁.gens= #[])
  (ha:s₁.heap.get? a=some {cls:= .type "list",data:= .seq vs.toArray})(hi:jC vs ns)(hl:ns.length<=sizeLine)(hr:fI k sU)
  (F: ∀base:Heap,K.In base->base.Ns ax mg->nS P w K mg base CX k fa fd [x] sp)(hbind: ∀(s:ai) (u:Value),xl s fd ⟨[u], []⟩ [(x,u)])
  (hsp: ∀H:Hp,Lm H->pU K H a (ns.map V.int)->sp [.ref a] H (fun v _=>v= .bl true) fun _ _ _=>False)
  (hCX: ∀H e s',CX [] H s₁ (fun _ _ _=>False) e s'->False):
  fK (model P w) sU (.call (.ref fa) ⟨[.ref a], []⟩) (fun r s'=>r= .ok (.ret (.bool true))/\OldK s₁.heap s'.heap/\s'.os=s₁.os/\mR s'.gens) s₁:=by
 have rv:=wD hi
 have lenV:=hi.length
 have core: ∀H:Hp,Lm H->pU K H a (ns.map V.int)->pG P w H s₁.heap->(∀b,H b≠none->b=a)->(H a≠none->K.lookup a=none)->
   fK (model P w) sU (.call (.ref fa) ⟨[.ref a], []⟩) (fun r s'=>r= .ok (.ret (.bool true))/\OldK s₁.heap s'.heap/\s'.os=s₁.os/\mR s'.gens) s₁:=by
  intro H hO hS eI hA hK
  have base_of: ∀{b:Addr} {o:Obj},s₁.heap.get? b=some o->H b=none->(xw s₁.heap H).get? b=some o:=fun e n=>FZ e n
  have noA: ∀{b:Addr} {o:Obj} {es:Array eL} {ep:Nat},s₁.heap.get? b=some o->o.data= .dict es ep->H b=none:=fun{b o es ep} e d=>by
   cases q:H b with
   | none=>rfl
   | some u=>
    have e':b=a:=hA b (by rw [q]; simp)
    subst e'
    rw [ha]at e; cases e
    have d':yz vs.toArray _=Data.dict es ep:=d
    cases d'
  have nsK: ∀{b:Addr} {m:Str->Option Value},s₁.heap.Ns b m->(xw s₁.heap H).Ns b m:=fun{b m} ⟨o,es,ep,e,d,r⟩=>⟨o,es,ep,base_of e (noA e d),d,r⟩
  have hKb:K.In (xw s₁.heap H):=fun b o e=>base_of (KX b o e) (by
   cases q:H b with
   | none=>rfl
   | some u=>
    have e':b=a:=hA b (by rw [q]; simp)
    subst e'
    rw [hK (by rw [q]; simp)]at e; cases e)
  have hM:Mod K mg (xw s₁.heap H):=⟨hKb,nsK hns,⟨mb,nsK hb,hbb⟩,let⟨mc,h1,h2⟩:=hlim; ⟨mc,nsK h1,h2⟩⟩
  have e0:yi P w K mg (xw s₁.heap H) sU [] s₁ H:=⟨rfl,hM,fun b o e=>Kb e,kU (Dh _ _),trivial,fun b hb=>absurd (show b∈([]:List Addr)from hb) (by simp),eI, .of_eq hg⟩
  refine jB ((F _ hKb (nsK hns)).run sU [] s₁ H ⟨[.ref a], []⟩ [.ref a] [.ref a] _ _ hr e0 (hbind s₁ (.ref a)) (.cons rfl .nil) (hsp H hO hS)) fun r s' h=> ?_
  cases r with
  | error e=>exact(hCX H e s' h).elim
  | ok fl=>
   cases fl with
   | next=>exact cS h
   | brk=>exact cS h
   | cont=>exact cS h
   | ret u=>
    obtain⟨v,H',os,bare,un,hok',r',q⟩:=h
    have q':v= .bl true:=q
    subst q'
    obtain rfl:u=fS true:=r'
    refine⟨rfl,OldK.of_keep fun b o e=> ?_,os,bare⟩
    cases q:H b with
    | none=>exact un.keep b o e q (by intro z; exact absurd (show b∈([]:List Addr)from z) (by simp)) (by simp)
    | some u=>
     rcases hO b with z | ⟨ob,xs,z⟩
     ·rw [q]at z; cases z
     ·have z2:=un.sN b ob _ z
      obtain⟨e1,_⟩:=eI b _ z
      obtain⟨e2,_⟩:=hok' b _ z2
      rw [e]at e1; cases e1
      exact e2
 cases hk:K.lookup a with
 | some o=>
  have e:=KX a o hk
  rw [ha]at e
  cases e
  refine core (fun _=>none) (fun _=> .inl rfl) (.inr ⟨_,vs.toArray,_,hk,rfl,rfl,rfl,by rw [aC,lenV]; exact hl,by simpa using rv⟩) (fun b u z=>by have z':(none:Option HO)=some u:=z; cases z') (fun b z=>absurd rfl z) fun z=>absurd rfl z
 | none=>
  refine core (fun b=>if b=a then some (.frz {cls:= .type "list",data:= .seq vs.toArray} (.lst (ns.map V.int)))else none) (fun b=> ?_) (.inl (.inr ⟨{cls:= .type "list",data:= .seq vs.toArray},if_pos rfl⟩)) (fun b u z=> ?_) (fun b z=> ?_) fun _=>hk
  ·by_cases hb:b=a
   ·exact .inr ⟨_,_,if_pos hb⟩
   ·exact .inl (if_neg hb)
  ·by_cases hb:b=a
   ·have z':=(if_pos hb).symm.trans z
    cases z'
    subst hb
    exact⟨ha,by rw [ae]; exact hl,vs,_,rv,ha⟩
   ·have z':=(if_neg hb).symm.trans z
    cases z'
  ·by_cases hb:b=a
   ·exact hb
   ·exact absurd (if_neg hb) z
end L2
namespace L2
open PySem PySem.Spec PyProof.Rows
theorem Jx{l:La}{n k:Nat}{q:aq}{loose:List Str}{XP:(Str->Option Value)->Heap->Prop}{YP:World->Heap->Prop}{d:DefRec}{K:Params->aT}{CX:World->gF}{sp:World->Sp}{x:Str}
  (hn:l.most=some n)(hn2:n<=sizeLine)(hdf:d.params.defaults= [])(hr:fI k sU)
  (hY: ∀(w:World) (h:Heap),YP w h->(K w.params).In h)
  (F: ∀(w:World) (mg:Str->Option Value) (fa:Addr) (h:Heap),(K w.params).In h->h.Ns ax mg->mg d.name=some (.ref fa)->
   ∃fd:bj,(∀(s:ai) (u:Value),xl s fd ⟨[u], []⟩ [(x,u)])/\
    ∀base:Heap,(K w.params).In base->base.Ns ax mg->nS l.prog w (K w.params) mg base (CX w) k fa fd [x] (sp w))
  (hsp: ∀(w:World) (H:Hp) (a:Addr) (ns:List Int),ns.length<=n->Lm H->pU (K w.params) H a (ns.map V.int)->sp w [.ref a] H (fun v _=>v= .bl true) fun _ _ _=>False)
  (hCX: ∀(w:World) (H:Hp) (s:ai) (e:Value) (s':ai),CX w [] H s (fun _ _ _=>False) e s'->False):
  PySem.W.WalkO q loose XP YP l.row.toRowW d [] (fun f vs=>PySem.call f vs):=by
 refine Att.zK hn hdf fun w s₀ s₁ mg mb fa o pm cd doc a vs ns G Y ho hd hcd hmg hobj hints hlen hg=> ?_
 have KX:=hY w _ Y
 obtain⟨fd,hb,hF⟩:=F w mg fa _ KX G.T.g hmg
 exact Ge KX G.T.g G.T.b G.T.builtins G.T.nolimit hg hobj hints (bE hlen hn2) hr hF hb (fun H hO hS=>hsp w H a ns hlen hO hS) fun H e s'=>hCX w H s₁ e s'
end L2
namespace L2
open PySem PySem.Spec PyProof.Rows
def inClass(s:Stmt)(j:Nat):Stmt:=match s with
 | .ClassDef _ _ _ body _ _ _ _ _ _ _=>body.getD j (.Pass ⟨0,0,0,0⟩)
 | _=> .Pass ⟨0,0,0,0⟩
def bZ(s:Stmt):Arguments:=match s with
 | .FunctionDef _ a _ _ _ _ _ _ _ _=>a
 | _=>{posonlyargs:= [],args:= [],vararg:=none,kwonlyargs:= [],kw_defaults:= [],kwarg:=none,defaults:= []}
def aP(s:Stmt):List Stmt:=match s with
 | .FunctionDef _ _ b _ _ _ _ _ _ _=>b
 | _=> []
def aE(s:Stmt):Scope:=match s with
 | .FunctionDef _ _ _ _ _ _ sc _ _ _=>sc
 | _=>{kind:= .function,names:= [],isGenerator:=false,isCoroutine:=false}
abbrev E0:XK:=fun _ _ _=>False
structure lu(K:aT)(x qual:Str)(st:Stmt)(f:Addr)(fd:bj):Prop where
 ex: ∃(oc:Value) (od:Option Addr) (kV doc pm:Value) (an:Option Addr) (cdv ct:Value) (osl:Array (Option Value)),
  fd=aU x qual (bZ st) (aP st) (aE st) .none kV doc pm an cdv ct/\K.lookup f=some ⟨oc,od, .func fd,osl⟩/\aQ K cdv qual=true
 kp:aK K (.ref f)=true
section
variable {P:aq}{w:World}{K:aT}{mg:Str->Option Value}{base:Heap}
theorem lu.binds{x qual:Str}{st:Stmt}{f:Addr}{fd:bj}{ps:List Str}(F:lu K x qual st f fd)
  (h: ∀(kV doc pm:Value) (an:Option Addr) (cdv ct:Value) (us:List Value),us.length=ps.length->bindArgs (aU x qual (bZ st) (aP st) (aE st) .none kV doc pm an cdv ct) ⟨us, []⟩=pure (ps.zip us)):Binds K fd ps []:=by
 obtain⟨oc,od,kV,doc,pm,an,cdv,ct,osl,rfl,lk,hcd⟩:=F.ex
 exact .all (h kV doc pm an cdv ct)
theorem cX{x qual:Str}{st:Stmt}{f:Addr}{oc:Value}{od an:Option Addr}{osl:Array (Option Value)}{kV doc pm cdv ct:Value}(l:K.lookup f=some ⟨oc,od, .func (aU x qual (bZ st) (aP st) (aE st) .none kV doc pm an cdv ct),osl⟩)
  (c:aQ K cdv qual=true)(k:aK K (.ref f)=true):lu K x qual st f (aU x qual (bZ st) (aP st) (aE st) .none kV doc pm an cdv ct):=⟨⟨oc,od,kV,doc,pm,an,cdv,ct,osl,rfl,l,c⟩,k⟩
end
theorem sG{A B:Prop}(h:B):if false=true then A else B:=by
 rw [if_neg aF]
 exact h
theorem uv{A B:Prop}(h:A):if true=true then A else B:=by
 rw [if_pos rfl]
 exact h
def bT(H H':Hp):Prop:= ∀b o,H b=some o->H' b=some o
theorem bT.refl(H:Hp):bT H H:=fun _ _ h=>h
theorem bT.trans{H H1 H2:Hp}(a:bT H H1)(b:bT H1 H2):bT H H2:=fun c o h=>b c o (a c o h)
theorem bT.free{H H':Hp}(e:bT H H'){l:Addr}(h:H' l=Option.none):H l=Option.none:=by
 cases q:H l with
 | none=>rfl
 | some o=>
  rw [e l o q]at h
  cases h
theorem bT.seq{K:aT}{H H':Hp}{a:Addr}{xs:List V}(e:bT H H')(h:pU K H a xs):pU K H' a xs:=by
 rcases h with(h | ⟨o,h⟩) | h
 ·exact .inl (.inl (e _ _ h))
 ·exact .inl (.inr ⟨o,e _ _ h⟩)
 ·exact .inr h
end L2
namespace Z
open PySem PySem.Spec PyProof.Rows L2
inductive D where
 | non | bl (b:Bool) | int (i:Int) | str (x:Str)
 | tup (xs:List D) | lst (xs:List D)
 | ins (C:Addr) (ns:List Str) (vs:List D)
 | exc (C:Addr)
 | dct (ks:List D) (ns:List Int)
abbrev St:=L2.St
abbrev MP:=Addr->Prop
abbrev Frag:=aT
def L_:MP:=fun _=>False
def OZ(K:Frag)(a:Addr)(xs:List V):Prop:=
 ∃(o:Obj) (its:Array Value) (n:Nat),K.lookup a=some o/\o.cls= .type "list"/\o.dict=none/\o.data= .seq its n/\its.size<=sizeLine/\Vals xs its.toList
def IQ(K:Frag)(M:MP)(H:Hp)(a:Addr)(xs:List V):Prop:=(Rd H a (.lst xs)/\ ¬M a)\/OZ K a xs
def Gn(a C:Addr):HO:= .ext fun h=> ∃o,h.get? a=some o/\o.cls= .ref C/\o.dict=none/\ ∃vs,o.data= .fields vs
mutual
def qK:D->Int
 | .int i=>hashInt i
 | .tup ds=>yA (fH (jq ds))
 | _=>0
def jq:List D->List Int
 | []=> []
 | d::ds=>qK d::jq ds
end
def o6:List (Int×Addr×Int)->List eL->Prop
 | [], []=>True
 | x::xs,e::es=>(∃t,e=⟨x.1, .ref x.2.1, .int x.2.2 t⟩)/\o6 xs es
 | _,_=>False
def kQ(a:Addr)(xs:List (Int×Addr×Int)):HO:= .ext fun h=>(a==jd)=false/\ ∃o es ep,h.get? a=some o/\o.ExactDict/\o.data= .dict es ep/\o6 xs es.toList
def qJ(ks:List D)(bs:List Addr)(ns:List Int):List (Int×Addr×Int):=(jq ks).zip (bs.zip ns)
mutual
def Dn(K:Frag)(M:MP)(H:Hp):D->V->Prop
 | .non,v=>v= .non
 | .bl b,v=>v= .bl b
 | .int i,v=>v= .int i
 | .str x,v=>v= .str x
 | .tup ds,v=> ∃a xs,v= .ref a/\kq K H a xs/\cN K M H ds xs
 | .lst ds,v=> ∃a xs,v= .ref a/\IQ K M H a xs/\cN K M H ds xs
 | .ins C ns ds,v=> ∃a dx fs,v= .ref a/\H a=some (.ins C dx fs)/\fs.map (·.1)=ns/\cN K M H ds (fs.map (·.2))
 | .exc C,v=> ∃a,v= .ref a/\H a=some (Gn a C)
 | .dct ks ns,v=> ∃a bs,v= .ref a/\H a=some (kQ a (qJ ks bs ns))/\bs.length=ks.length/\ns.length=ks.length/\cN K M H ks (bs.map V.ref)
def cN(K:Frag)(M:MP)(H:Hp):List D->List V->Prop
 | [],xs=>xs= []
 | d::ds,xs=> ∃v r,xs=v::r/\Dn K M H d v/\cN K M H ds r
end
def p7(M:MP)(H H':Hp):Prop:= ∀b o,H b=some o->(∀xs,o= .lst xs-> ¬M b)->H' b=some o
section
variable {K:Frag}{M M':MP}{H H':Hp}{a:Addr}{xs:List V}
theorem qF(s:bT H H'):p7 M H H':=fun b o e _=>s b o e
theorem p7.tup(k:p7 M H H')(h:kq K H a xs):kq K H' a xs:=by
 rcases h with(h | ⟨o,h⟩) | h
 ·exact .inl (.inl (k _ _ h (fun _ e=>nomatch e)))
 ·exact .inl (.inr ⟨o,k _ _ h (fun _ e=>nomatch e)⟩)
 ·exact .inr h
theorem p7.sqm(k:p7 M H H')(h:IQ K M H a xs):IQ K M H' a xs:=by
 rcases h with⟨h | ⟨o,h⟩,m⟩ | h
 ·exact .inl ⟨.inl (k _ _ h fun _ _=>m),m⟩
 ·exact .inl ⟨.inr ⟨o,k _ _ h (fun _ e=>nomatch e)⟩,m⟩
 ·exact .inr h
theorem IQ.l(h:IQ K M H a xs):pU K H a xs:=by
 rcases h with⟨h,_⟩ | h
 ·exact .inl h
 ·exact .inr h
theorem IQ.re(hm: ∀a,M' a->M a\/H a=none)(h:IQ K M H a xs):IQ K M' H a xs:=by
 rcases h with⟨h,m⟩ | h
 ·refine .inl ⟨h,fun m'=> ?_⟩
  rcases hm _ m' with z | z
  ·exact m z
  ·rcases h with h | ⟨o,h⟩ <;> (rw [z]at h; cases h)
 ·exact .inr h
mutual
theorem Dn.keep(k:p7 M H H'): ∀{d:D} {v:V},Dn K M H d v->Dn K M H' d v
 | .non,_,x=>x
 | .bl _,_,x=>x
 | .int _,_,x=>x
 | .str _,_,x=>x
 | .tup ds,_,⟨a,xs,e,s,r⟩=>⟨a,xs,e,k.tup s,cN.keep k r⟩
 | .lst ds,_,⟨a,xs,e,s,r⟩=>⟨a,xs,e,k.sqm s,cN.keep k r⟩
 | .ins _ _ ds,_,⟨a,dx,fs,e,s,n,r⟩=>⟨a,dx,fs,e,k _ _ s (fun _ e=>nomatch e),n,cN.keep k r⟩
 | .exc _,_,⟨a,e,s⟩=>⟨a,e,k _ _ s (fun _ e=>nomatch e)⟩
 | .dct _ _,_,⟨a,bs,e,s,l1,l2,r⟩=>⟨a,bs,e,k _ _ s (fun _ e=>nomatch e),l1,l2,cN.keep k r⟩
theorem cN.keep(k:p7 M H H'): ∀{ds:List D} {vs:List V},cN K M H ds vs->cN K M H' ds vs
 | [],_,x=>x
 | _::_,_,⟨v,r,e,p,q⟩=>⟨v,r,e,Dn.keep k p,cN.keep k q⟩
end
mutual
theorem Dn.re(hm: ∀a,M' a->M a\/H a=none): ∀{d:D} {v:V},Dn K M H d v->Dn K M' H d v
 | .non,_,x=>x
 | .bl _,_,x=>x
 | .int _,_,x=>x
 | .str _,_,x=>x
 | .tup ds,_,⟨a,xs,e,s,r⟩=>⟨a,xs,e,s,cN.re hm r⟩
 | .lst ds,_,⟨a,xs,e,s,r⟩=>⟨a,xs,e,s.re hm,cN.re hm r⟩
 | .ins _ _ ds,_,⟨a,dx,fs,e,s,n,r⟩=>⟨a,dx,fs,e,s,n,cN.re hm r⟩
 | .exc _,_,⟨a,e,s⟩=>⟨a,e,s⟩
 | .dct _ _,_,⟨a,bs,e,s,l1,l2,r⟩=>⟨a,bs,e,s,l1,l2,cN.re hm r⟩
theorem cN.re(hm: ∀a,M' a->M a\/H a=none): ∀{ds:List D} {vs:List V},cN K M H ds vs->cN K M' H ds vs
 | [],_,x=>x
 | _::_,_,⟨v,r,e,p,q⟩=>⟨v,r,e,Dn.re hm p,cN.re hm q⟩
end
theorem Dn.same(s:bT H H'){d:D}{v:V}(h:Dn K M H d v):Dn K M H' d v:=h.keep (qF s)
theorem cN.same(s:bT H H'){d:List D}{v:List V}(h:cN K M H d v):cN K M H' d v:=h.keep (qF s)
theorem Dn.less(hm: ∀a,M' a->M a){d:D}{v:V}(h:Dn K M H d v):Dn K M' H d v:=h.re fun a z=> .inl (hm a z)
theorem cN.less(hm: ∀a,M' a->M a){d:List D}{v:List V}(h:cN K M H d v):cN K M' H d v:=h.re fun a z=> .inl (hm a z)
theorem Dn.noM{d:D}{v:V}(h:Dn K M H d v):Dn K L_ H d v:=h.less fun _ z=>z.elim
theorem cN.len: ∀{ds:List D} {vs:List V},cN K M H ds vs->vs.length=ds.length
 | [],_,x=>by rw [show _= []from x]; rfl
 | _::_,_,⟨v,r,e,p,q⟩=>by rw [e,aL,aL,cN.len q]
theorem cN.app: ∀{ds es:List D} {vs us:List V},cN K M H ds vs->cN K M H es us->cN K M H (ds ++ es) (vs ++ us)
 | [],_,_,_,x,y=>by rw [show _= []from x]; exact y
 | _::_,_,_,_,⟨v,r,e,p,q⟩,y=>by rw [e]; exact⟨v,_,rfl,p,cN.app q y⟩
theorem cN.one{d:D}{v:V}(h:Dn K M H d v):cN K M H [d] [v]:=⟨v, [],rfl,h,rfl⟩
theorem cN.get: ∀{ds:List D} {vs:List V},cN K M H ds vs-> ∀{i:Nat} {d:D},ds[i]? =some d-> ∃v,vs[i]? =some v/\Dn K M H d v
 | [],_,_,_,_,e=>by simp at e
 | _::_,_,⟨v,r,e,p,q⟩,0,d,h=>by simp at h; subst h; rw [e]; exact⟨v,rfl,p⟩
 | _::_,_,⟨v,r,e,p,q⟩,i+1,d,h=>by
  obtain⟨u,h1,h2⟩:=cN.get q (i:=i) (by simpa using h)
  rw [e]; exact⟨u,by simpa using h1,h2⟩
theorem cN.getV: ∀{ds:List D} {vs:List V},cN K M H ds vs-> ∀{i:Nat} {v:V},vs[i]? =some v-> ∃d,ds[i]? =some d/\Dn K M H d v
 | [],_,x,i,v,e=>by rw [show _= []from x]at e; simp at e
 | d::_,_,⟨u,r,e,p,q⟩,0,v,h=>by rw [e]at h; simp at h; subst h; exact⟨d,rfl,p⟩
 | _::_,_,⟨u,r,e,p,q⟩,i+1,v,h=>by
  rw [e]at h
  obtain⟨d,h1,h2⟩:=cN.getV q (i:=i) (by simpa using h)
  exact⟨d,by simpa using h1,h2⟩
theorem cN.take: ∀{ds:List D} {vs:List V} (n:Nat),cN K M H ds vs->cN K M H (ds.take n) (vs.take n)
 | _,_,0,_=>rfl
 | [],_,_+1,x=>by rw [show _= []from x]; rfl
 | _::_,_,n+1,⟨v,r,e,p,q⟩=>by rw [e]; exact⟨v,_,rfl,p,cN.take n q⟩
theorem cN.drop: ∀{ds:List D} {vs:List V} (n:Nat),cN K M H ds vs->cN K M H (ds.drop n) (vs.drop n)
 | _,_,0,x=>x
 | [],_,_+1,x=>by rw [show _= []from x]; rfl
 | _::_,_,n+1,⟨v,r,e,p,q⟩=>by rw [e]; exact cN.drop n q
theorem cN.set{d:D}{v:V}(h:Dn K M H d v): ∀{ds:List D} {vs:List V} (n:Nat),cN K M H ds vs->cN K M H (ds.set n d) (vs.set n v)
 | [],_,_,x=>by rw [show _= []from x]; rfl
 | _::_,_,0,⟨u,r,e,p,q⟩=>by rw [e]; exact⟨v,_,rfl,h,q⟩
 | _::_,_,n+1,⟨u,r,e,p,q⟩=>by rw [e]; exact⟨u,_,rfl,p,cN.set h n q⟩
theorem cN.erase: ∀{ds:List D} {vs:List V} (n:Nat),cN K M H ds vs->cN K M H (ds.eraseIdx n) (vs.eraseIdx n)
 | [],_,_,x=>by rw [show _= []from x]; rfl
 | _::_,_,0,⟨u,r,e,p,q⟩=>by rw [e]; exact q
 | _::_,_,n+1,⟨u,r,e,p,q⟩=>by rw [e]; exact⟨u,_,rfl,p,cN.erase n q⟩
theorem cN.ints: ∀{ns:List Int} {vs:List V},cN K M H (ns.map .int) vs->vs=ns.map V.int
 | [],_,x=>x
 | n::ns,_,⟨u,r,e,p,q⟩=>by rw [e,cN.ints q,show u=V.int n from p]; rfl
theorem cN.of_ints: ∀(ns:List Int),cN K M H (ns.map .int) (ns.map V.int)
 | []=>rfl
 | n::ns=>⟨_,_,rfl,rfl,cN.of_ints ns⟩
end
def qM(K:Frag)(M:MP)(H:Hp):D->V->Prop
 | .lst ds,v=> ∃a xs,v= .ref a/\pU K H a xs/\cN K M H ds xs
 | d,v=>Dn K M H d v
section
variable {K:Frag}{M M':MP}{H H':Hp}
theorem Dn.t{d:D}{v:V}(h:Dn K M H d v):qM K M H d v:=by
 cases d with
 | lst ds=>obtain⟨a,xs,e,s,r⟩:=h; exact⟨a,xs,e,s.l,r⟩
 | _=>exact h
theorem qM.same{d:D}{v:V}(s:bT H H')(h:qM K M H d v):qM K M H' d v:=by
 cases d with
 | lst ds=>obtain⟨a,xs,e,q,r⟩:=h; exact⟨a,xs,e,s.seq q,r.same s⟩
 | _=>exact Dn.same s h
end
inductive Sl where
 | un | im (d:D) | mu (ds:List D)
abbrev fm:=List Sl
def MM(M0:MP)(ρ:fm)(α:Nat->Addr):MP:=fun a=>M0 a\/ ∃(i:Nat) (ds:List D),ρ[i]? =some (.mu ds)/\α i=a
structure Rep(K:Frag)(M0:MP)(H0:Hp)(γ:List (D×V))(α:Nat->Addr)(ρ:fm)(σ:St)(H:Hp):Prop where
 same:bT H0 H
 old: ∀a,M0 a->H0 a≠none
 inj: ∀(i j:Nat) (ds es:List D),ρ[i]? =some (.mu ds)->ρ[j]? =some (.mu es)->α i=α j->i=j
 im: ∀(i:Nat) (d:D),ρ[i]? =some (.im d)-> ∃v,σ[i]? =some (some v)/\Dn K (MM M0 ρ α) H d v
 mu: ∀(i:Nat) (ds:List D),ρ[i]? =some (.mu ds)->H0 (α i)=none/\σ[i]? =some (some (.ref (α i)))/\ ∃xs,H (α i)=some (.lst xs)/\cN K (MM M0 ρ α) H ds xs
 gh: ∀p∈γ,Dn K (MM M0 ρ α) H p.1 p.2
 len:σ.length=ρ.length
section
variable {K:Frag}{M0:MP}{H0 H H' H1:Hp}{γ:List (D×V)}{α:Nat->Addr}{ρ:fm}{σ:St}
theorem get_set{α:Type}{l:List α}{i j:Nat}{x y:α}(h:(l.set i x)[j]? =some y):(j=i/\y=x)\/(j≠i/\l[j]? =some y):=by
 rw [fM]at h
 split at h
 ·rename_i e
  split at h
  ·exact .inl ⟨e.symm,(aH h).symm⟩
  ·cases h
 ·rename_i e
  exact .inr ⟨fun z=>e z.symm,h⟩
theorem tw{α:Type}{l:List α}{i:Nat}{x:α}(h:i < l.length):(l.set i x)[i]? =some x:=by
 rw [fM,if_pos rfl,if_pos h]
theorem eP{α:Type}{l:List α}{i j:Nat}{x:α}(h:j≠i):(l.set i x)[j]? =l[j]? :=by
 rw [fM,if_neg fun z=>h z.symm]
theorem mj{i:Nat}{s:Sl}(hs: ∀ds,s≠ .mu ds){a:Addr}(h:MM M0 (ρ.set i s) α a):MM M0 ρ α a:=by
 rcases h with h | ⟨j,ds,e,z⟩
 ·exact .inl h
 ·rcases get_set e with⟨_,q⟩ | ⟨_,q⟩
  ·exact absurd q.symm (hs ds)
  ·exact .inr ⟨j,ds,q,z⟩
theorem Rep.next(r:Rep K M0 H0 γ α ρ σ H)(s:bT H H'):Rep K M0 H0 γ α ρ σ H':=
 ⟨r.same.trans s,r.old,r.inj,fun i d e=>let⟨v,h1,h2⟩:=r.im i d e; ⟨v,h1,h2.same s⟩,
  fun i ds e=>let⟨h1,h2,xs,h3,h4⟩:=r.mu i ds e; ⟨h1,h2,xs,s _ _ h3,h4.same s⟩,fun p hp=>(r.gh p hp).same s,r.len⟩
theorem Rep.ghost{d:D}{v:V}(r:Rep K M0 H0 γ α ρ σ H)(h:Dn K (MM M0 ρ α) H d v):Rep K M0 H0 ((d,v)::γ) α ρ σ H:=
 ⟨r.same,r.old,r.inj,r.im,r.mu,fun p hp=>(aO.mp hp).elim (fun z=>by rw [z]; exact h) fun z=>r.gh p z,r.len⟩
theorem Rep.unghost{p:D×V}(r:Rep K M0 H0 (p::γ) α ρ σ H):Rep K M0 H0 γ α ρ σ H:=
 ⟨r.same,r.old,r.inj,r.im,r.mu,fun q hq=>r.gh q (cA _ hq),r.len⟩
theorem Rep.set_im{i:Nat}{d:D}{v:V}(r:Rep K M0 H0 γ α ρ σ H)(hi:i < ρ.length)(h:Dn K (MM M0 ρ α) H d v):Rep K M0 H0 γ α (ρ.set i (.im d)) (σ.set i (some v)) H:=by
 have lm: ∀a,MM M0 (ρ.set i (.im d)) α a->MM M0 ρ α a:=fun a=>mj (by intro _ e; cases e)
 refine⟨r.same,r.old,fun j k ds es e1 e2=> ?_,fun j e q=> ?_,fun j ds q=> ?_,fun p hp=>(r.gh p hp).less lm,by rw [bL,bL,r.len]⟩
 ·rcases get_set e1 with⟨_,z⟩ | ⟨_,z1⟩
  ·cases z
  ·rcases get_set e2 with⟨_,z⟩ | ⟨_,z2⟩
   ·cases z
   ·exact r.inj j k ds es z1 z2
 ·rcases get_set q with⟨rfl,z⟩ | ⟨n,z⟩
  ·cases z
   exact⟨v,tw (by rw [r.len]; exact hi),h.less lm⟩
  ·obtain⟨u,h1,h2⟩:=r.im j e z
   exact⟨u,by rw [eP n]; exact h1,h2.less lm⟩
 ·rcases get_set q with⟨rfl,z⟩ | ⟨n,z⟩
  ·cases z
  ·obtain⟨h1,h2,xs,h3,h4⟩:=r.mu j ds z
   exact⟨h1,by rw [eP n]; exact h2,xs,h3,h4.less lm⟩
theorem Rep.forget{i:Nat}(r:Rep K M0 H0 γ α ρ σ H){ov:Option V}:Rep K M0 H0 γ α (ρ.set i .un) (σ.set i ov) H:=by
 have lm: ∀a,MM M0 (ρ.set i .un) α a->MM M0 ρ α a:=fun a=>mj (by intro _ e; cases e)
 refine⟨r.same,r.old,fun j k ds es e1 e2=> ?_,fun j e q=> ?_,fun j ds q=> ?_,fun p hp=>(r.gh p hp).less lm,by rw [bL,bL,r.len]⟩
 ·rcases get_set e1 with⟨_,z⟩ | ⟨_,z1⟩
  ·cases z
  ·rcases get_set e2 with⟨_,z⟩ | ⟨_,z2⟩
   ·cases z
   ·exact r.inj j k ds es z1 z2
 ·rcases get_set q with⟨rfl,z⟩ | ⟨n,z⟩
  ·cases z
  ·obtain⟨u,h1,h2⟩:=r.im j e z
   exact⟨u,by rw [eP n]; exact h1,h2.less lm⟩
 ·rcases get_set q with⟨rfl,z⟩ | ⟨n,z⟩
  ·cases z
  ·obtain⟨h1,h2,xs,h3,h4⟩:=r.mu j ds z
   exact⟨h1,by rw [eP n]; exact h2,xs,h3,h4.less lm⟩
theorem Rep.drop1{i:Nat}(r:Rep K M0 H0 γ α ρ σ H):Rep K M0 H0 γ α (ρ.set i .un) σ H:=by
 have h:=r.forget (i:=i) (ov:=(σ[i]?).join)
 have e:σ.set i (σ[i]?).join=σ:=by
  apply eV
  intro j
  rw [fM]
  split
  ·rename_i e
   subst e
   split
   ·rename_i h
    rw [ah h]
    rfl
   ·rename_i h
    rw [bt (vF h)]
  ·rfl
 rwa [e]at h
def Ic(α:Nat->Addr)(i:Nat)(l:Addr):Nat->Addr:=fun j=>if j=i then l else α j
theorem oZ{i:Nat}{l:Addr}:Ic α i l i=l:=if_pos rfl
theorem lb{i j:Nat}{l:Addr}(h:j≠i):Ic α i l j=α j:=if_neg h
theorem Rep.set_mu{i:Nat}{l:Addr}{xs:List V}{ds:List D}(r:Rep K M0 H0 γ α ρ σ H1)(hi:i < ρ.length)(hl:H1 l=none)(s:bT H1 H)(h:H l=some (.lst xs))
  (hd:cN K (fun a=>MM M0 ρ α a\/a=l) H ds xs):Rep K M0 H0 γ (Ic α i l) (ρ.set i (.mu ds)) (σ.set i (some (.ref l))) H:=by
 have lm: ∀a,MM M0 (ρ.set i (.mu ds)) (Ic α i l) a->MM M0 ρ α a\/a=l:=fun a z=>by
  rcases z with z | ⟨j,es,e,z⟩
  ·exact .inl (.inl z)
  ·rcases get_set e with⟨rfl,q⟩ | ⟨n,q⟩
   ·rw [oZ]at z; exact .inr z.symm
   ·rw [lb n]at z; exact .inl (.inr ⟨j,es,q,z⟩)
 have lm': ∀a,MM M0 (ρ.set i (.mu ds)) (Ic α i l) a->MM M0 ρ α a\/H1 a=none:=fun a z=>by
  rcases lm a z with z | rfl
  ·exact .inl z
  ·exact .inr hl
 refine⟨r.same.trans s,r.old,fun j k es fs e1 e2 ej=> ?_,fun j e q=> ?_,fun j es q=> ?_,fun p hp=>((r.gh p hp).re lm').same s,by rw [bL,bL,r.len]⟩
 ·have nl: ∀(k:Nat) (es:List D),ρ[k]? =some (Sl.mu es)->α k≠l:=fun k es z e=>by
   obtain⟨_,_,ys,h3,_⟩:=r.mu k es z
   rw [e,hl]at h3; cases h3
  rcases get_set e1 with⟨rfl,z⟩ | ⟨n1,z1⟩
  ·rcases get_set e2 with⟨rfl,z⟩ | ⟨n2,z2⟩
   ·rfl
   ·rw [oZ,lb n2]at ej; exact absurd ej.symm (nl k fs z2)
  ·rcases get_set e2 with⟨rfl,z⟩ | ⟨n2,z2⟩
   ·rw [oZ,lb n1]at ej; exact absurd ej (nl j es z1)
   ·rw [lb n1,lb n2]at ej; exact r.inj j k es fs z1 z2 ej
 ·rcases get_set q with⟨rfl,z⟩ | ⟨n,z⟩
  ·cases z
  ·obtain⟨u,h1,h2⟩:=r.im j e z
   exact⟨u,by rw [eP n]; exact h1,(h2.re lm').same s⟩
 ·rcases get_set q with⟨rfl,z⟩ | ⟨n,z⟩
  ·cases z
   exact⟨by rw [oZ]; exact r.same.free hl,by rw [oZ]; exact tw (by rw [r.len]; exact hi),xs,by rw [oZ]; exact h,hd.less lm⟩
  ·obtain⟨h1,h2,ys,h3,h4⟩:=r.mu j es z
   exact⟨by rw [lb n]; exact h1,by rw [eP n,lb n]; exact h2,ys,by rw [lb n]; exact s _ _ h3,(h4.re lm').same s⟩
theorem iz{l:Addr}{o:HO}(s:bT H0 H)(h:H0 l=none):bT H0 (upd H l o):=fun b u e=>by
 rw [cD (gc e h)]; exact s b u e
theorem bG{l:Addr}{o:HO}(h:H l=none):bT H (upd H l o):=iz (bT.refl H) h
theorem Rep.upd_mu{i:Nat}{ds es:List D}{ys:List V}(r:Rep K M0 H0 γ α ρ σ H)(hi:ρ[i]? =some (.mu ds))(hd:cN K (MM M0 ρ α) H es ys):Rep K M0 H0 γ α (ρ.set i (.mu es)) σ (upd H (α i) (.lst ys)):=by
 obtain⟨a1,a2,xs,a3,a4⟩:=r.mu i ds hi
 have hlt:i < ρ.length:=(aI.mp hi).1
 have me: ∀(j:Nat) (es':List D),(ρ.set i (Sl.mu es))[j]? =some (Sl.mu es')-> ∃fs,ρ[j]? =some (Sl.mu fs):=fun j es' e=>by
  rcases get_set e with⟨rfl,_⟩ | ⟨_,q⟩
  ·exact⟨ds,hi⟩
  ·exact⟨es',q⟩
 have lm: ∀a,MM M0 (ρ.set i (.mu es)) α a->MM M0 ρ α a:=fun a z=>by
  rcases z with z | ⟨j,es',e,z⟩
  ·exact .inl z
  ·obtain⟨fs,q⟩:=me j es' e
   exact .inr ⟨j,fs,q,z⟩
 have kp:p7 (MM M0 ρ α) H (upd H (α i) (.lst ys)):=fun b o e n=>by
  by_cases hb:b=α i
  ·subst hb
   rw [a3]at e; cases e
   exact absurd (.inr ⟨i,ds,hi,rfl⟩) (n _ rfl)
  ·rw [cD hb]; exact e
 refine⟨iz r.same a1,r.old,fun j k f1 f2 e1 e2=> ?_,fun j e q=> ?_,fun j f q=> ?_,fun p hp=>((r.gh p hp).keep kp).less lm,by rw [bL,r.len]⟩
 ·obtain⟨g1,z1⟩:=me j f1 e1
  obtain⟨g2,z2⟩:=me k f2 e2
  exact r.inj j k g1 g2 z1 z2
 ·rcases get_set q with⟨rfl,z⟩ | ⟨n,z⟩
  ·cases z
  ·obtain⟨u,h1,h2⟩:=r.im j e z
   exact⟨u,h1,(h2.keep kp).less lm⟩
 ·rcases get_set q with⟨rfl,z⟩ | ⟨n,z⟩
  ·cases z
   exact⟨a1,a2,ys,bO,(hd.keep kp).less lm⟩
  ·obtain⟨h1,h2,zs,h3,h4⟩:=r.mu j f z
   refine⟨h1,h2,zs, ?_,(h4.keep kp).less lm⟩
   rw [cD fun e=>n (r.inj j i f ds z hi e)]; exact h3
theorem Rep.freeze{i:Nat}{ds:List D}(r:Rep K M0 H0 γ α ρ σ H)(hi:ρ[i]? =some (.mu ds)):Rep K M0 H0 γ α (ρ.set i (.im (.lst ds))) σ H:=by
 obtain⟨a1,a2,xs,a3,a4⟩:=r.mu i ds hi
 have lm: ∀a,MM M0 (ρ.set i (.im (.lst ds))) α a->MM M0 ρ α a:=fun a=>mj (by intro _ e; cases e)
 refine⟨r.same,r.old,fun j k d1 d2 e1 e2=> ?_,fun j e q=> ?_,fun j es q=> ?_,fun p hp=>(r.gh p hp).less lm,by rw [bL,r.len]⟩
 ·rcases get_set e1 with⟨_,z⟩ | ⟨_,z1⟩
  ·cases z
  ·rcases get_set e2 with⟨_,z⟩ | ⟨_,z2⟩
   ·cases z
   ·exact r.inj j k d1 d2 z1 z2
 ·rcases get_set q with⟨rfl,z⟩ | ⟨n,z⟩
  ·cases z
   refine⟨_,a2,α j,xs,rfl, .inl ⟨.inl a3,fun m=> ?_⟩,a4.less lm⟩
   rcases m with m | ⟨k,es,e,m⟩
   ·exact r.old _ m a1
   ·rcases get_set e with⟨_,z⟩ | ⟨n,z⟩
    ·cases z
    ·exact n (r.inj k j es ds z hi m)
  ·obtain⟨u,h1,h2⟩:=r.im j e z
   exact⟨u,h1,h2.less lm⟩
 ·rcases get_set q with⟨rfl,z⟩ | ⟨n,z⟩
  ·cases z
  ·obtain⟨h1,h2,ys,h3,h4⟩:=r.mu j es z
   exact⟨h1,h2,ys,h3,h4.less lm⟩
end
section
variable {X:Cx}{e:Expr}{es:List Expr}{st:Stmt}{sts:List Stmt}{σ:St}{H:Hp}
def tE(X:Cx)(e:Expr):TE:=fun σ H Q=> ∀(pins:List (Addr×Obj)) (s:ai),Inv X pins σ H s->wpAny (model X.prog X.w) X.A (eval e X.env) (EP X pins σ Q) X.xe s
def tT(X:Cx)(e:Expr):TT:=fun σ H Q=> ∀(pins:List (Addr×Obj)) (s:ai),Inv X pins σ H s->wpAny (model X.prog X.w) X.A (isTrue e X.env (eval e X.env)) (TP X pins σ Q) X.xe s
def tW(X:Cx)(e:Expr):TT:=fun σ H Q=> ∀(whole:Sem Value) (pins:List (Addr×Obj)) (s:ai),Inv X pins σ H s->wpAny (model X.prog X.w) X.A (isTrue e X.env whole) (TP X pins σ Q) X.xe s
def tA(X:Cx)(es:List Expr):TA:=fun σ H Q=> ∀(pos:Pos) (pins:List (Addr×Obj)) (s:ai),Inv X pins σ H s->wpAny (model X.prog X.w) X.A (spliced (eQ pos (au es X.env))) (AP X pins σ Q) X.xe s
def tS(X:Cx)(st:Stmt):TS:=fun D σ H=> ∀(pins:List (Addr×Obj)) (s:ai),Inv X pins σ H s->wpAny (model X.prog X.w) X.A (exec st X.env) (SP X pins D) X.xe s
def oM(X:Cx)(st:List Stmt):TS:=fun D σ H=> ∀(pins:List (Addr×Obj)) (s:ai),Inv X pins σ H s->wpAny (model X.prog X.w) X.A (execs st X.env) (SP X pins D) X.xe s
theorem iu:PE X e (tE X e):=fun pins s σ H Q I h=>h pins s I
theorem Fc:PT X e (tT X e):=fun pins s σ H Q I h=>h pins s I
theorem OG:PW X e (tW X e):=fun w pins s σ H Q I h=>h w pins s I
theorem xE:PA X es (tA X es):=fun p pins s σ H Q I h=>h p pins s I
theorem t_:PS X st (tS X st):=fun pins s σ H Q I h=>h pins s I
theorem f_:Br X sts (oM X sts):=fun pins s σ H Q I h=>h pins s I
theorem _root_.L2.PE.to{t:TE}{Q:VK}(h:PE X e t)(q:t σ H Q):tE X e σ H Q:=fun pins s I=>h pins s σ H Q I q
theorem _root_.L2.PT.to{t:TT}{Q:Bool->Hp->Prop}(h:PT X e t)(q:t σ H Q):tT X e σ H Q:=fun pins s I=>h pins s σ H Q I q
theorem _root_.L2.PW.to{t:TT}{Q:Bool->Hp->Prop}(h:PW X e t)(q:t σ H Q):tW X e σ H Q:=fun w pins s I=>h w pins s σ H Q I q
theorem _root_.L2.PA.to{t:TA}{Q:List V->Hp->Prop}(h:PA X es t)(q:t σ H Q):tA X es σ H Q:=fun p pins s I=>h p pins s σ H Q I q
theorem _root_.L2.PS.to{t:TS}{D:Ends}(h:PS X st t)(q:t D σ H):tS X st D σ H:=fun pins s I=>h pins s σ H D I q
theorem _root_.L2.Br.to{t:TS}{D:Ends}(h:Br X sts t)(q:t D σ H):oM X sts D σ H:=fun pins s I=>h pins s σ H D I q
end
def aw(X:Cx)(ρ:fm)(e:Expr)(d:D):Prop:= ∀(M0:MP) (H0:Hp) (γ:List (D×V)) (α:Nat->Addr) (σ:St) (H:Hp) (Q:VK),Rep X.K M0 H0 γ α ρ σ H->
 (∀v H',bT H H'->Dn X.K (MM M0 ρ α) H' d v->Q v H')->tE X e σ H Q
def mZ(X:Cx)(ρ:fm)(e:Expr)(d:D):Prop:= ∀(M0:MP) (H0:Hp) (γ:List (D×V)) (α:Nat->Addr) (σ:St) (H:Hp) (Q:VK),Rep X.K M0 H0 γ α ρ σ H->
 (∀v H',bT H H'->qM X.K (MM M0 ρ α) H' d v->Q v H')->tE X e σ H Q
def eJ(X:Cx)(ρ:fm)(e:Expr)(ds:List D):Prop:= ∀(M0:MP) (H0:Hp) (γ:List (D×V)) (α:Nat->Addr) (σ:St) (H:Hp) (Q:VK),Rep X.K M0 H0 γ α ρ σ H->
 (∀l xs H1 H',bT H H1->H1 l=none->bT H1 H'->H' l=some (.lst xs)->cN X.K (fun a=>MM M0 ρ α a\/a=l) H' ds xs->Q (.ref l) H')->tE X e σ H Q
def cU(X:Cx)(ρ:fm)(e:Expr)(b:Bool):Prop:= ∀(M0:MP) (H0:Hp) (γ:List (D×V)) (α:Nat->Addr) (σ:St) (H:Hp) (Q:Bool->Hp->Prop),Rep X.K M0 H0 γ α ρ σ H->
 (∀H',bT H H'->Q b H')->tT X e σ H Q
def ju(X:Cx)(ρ:fm)(e:Expr)(b:Bool):Prop:= ∀(M0:MP) (H0:Hp) (γ:List (D×V)) (α:Nat->Addr) (σ:St) (H:Hp) (Q:Bool->Hp->Prop),Rep X.K M0 H0 γ α ρ σ H->
 (∀H',bT H H'->Q b H')->tW X e σ H Q
def aY(X:Cx)(ρ:fm)(es:List Expr)(ds:List D):Prop:= ∀(M0:MP) (H0:Hp) (γ:List (D×V)) (α:Nat->Addr) (σ:St) (H:Hp) (Q:List V->Hp->Prop),Rep X.K M0 H0 γ α ρ σ H->
 (∀vs H',bT H H'->cN X.K (MM M0 ρ α) H' ds vs->Q vs H')->tA X es σ H Q
def zJ(K:Frag)(M:MP)(H:Hp):List D->List V->Prop
 | [],xs=>xs= []
 | d::ds,xs=> ∃v r,xs=v::r/\qM K M H d v/\zJ K M H ds r
def vM(X:Cx)(ρ:fm)(es:List Expr)(ds:List D):Prop:= ∀(M0:MP) (H0:Hp) (γ:List (D×V)) (α:Nat->Addr) (σ:St) (H:Hp) (Q:List V->Hp->Prop),Rep X.K M0 H0 γ α ρ σ H->
 (∀vs H',bT H H'->zJ X.K (MM M0 ρ α) H' ds vs->Q vs H')->tA X es σ H Q
section
variable {X:Cx}{ρ:fm}{e a b:Expr}{es:List Expr}{d:D}{ds:List D}{pos p:Pos}
theorem aw.r(h:aw X ρ e d):mZ X ρ e d:=fun M0 H0 γ α σ H Q R k=>h M0 H0 γ α σ H Q R fun v H' s x=>k v H' s x.t
theorem eJ.toD(h:eJ X ρ e ds):aw X ρ e (.lst ds):=fun M0 H0 γ α σ H Q R k=>h M0 H0 γ α σ H Q R fun l xs H1 H' s n s' x y=>
 k _ H' (s.trans s') ⟨l,xs,rfl, .inl ⟨.inl x,fun m=>by
  rcases m with m | ⟨i,es,e,m⟩
  ·exact R.old _ m (R.same.free (s.free n))
  ·obtain⟨_,_,ys,h3,_⟩:=R.mu i es e
   rw [m]at h3
   have:=s _ _ h3
   rw [n]at this; cases this⟩,y.less fun a m=> .inl m⟩
theorem aw.to{d':D}(h:aw X ρ e d)(q:d=d'):aw X ρ e d':=q▸h
theorem cU.to{c c':Bool}(h:cU X ρ e c)(q:c=c'):cU X ρ e c':=q▸h
theorem aw.int{i:Int}{j}:aw X ρ (.Constant (.int i) j pos) (.int i):=fun _ _ _ _ _ H _ _ k=>Mm.to (k _ H (bT.refl _) rfl)
theorem aw.bl{i:Bool}{j}:aw X ρ (.Constant (.bool i) j pos) (.bl i):=fun _ _ _ _ _ H _ _ k=>Nx.to (k _ H (bT.refl _) rfl)
theorem aw.non{j}:aw X ρ (.Constant .none j pos) .non:=fun _ _ _ _ _ H _ _ k=>Mp.to (k _ H (bT.refl _) rfl)
theorem aw.str{x:Str}{j}:aw X ρ (.Constant (.str x) j pos) (.str x):=fun _ _ _ _ _ H _ _ k=>Lk.to (k _ H (bT.refl _) rfl)
theorem aw.name{x:Str}(i:Nat)(hN:X.N[i]? =some x)(hv:y7 X.env.scope x)(hρ:ρ[i]? =some (.im d))(hd:(x==("__debug__":Str))=false:=by decide)(hcd:(x==("__classdict__":Str))=false:=by decide):aw X ρ (.Name x pos) d:=
 fun _ _ _ _ _ H _ R k=>(ng hN hv hd hcd).to (let⟨v,h1,h2⟩:=R.im i d hρ; ⟨v,h1,k v H (bT.refl _) h2⟩)
theorem mZ.name{x:Str}(i:Nat)(hN:X.N[i]? =some x)(hv:y7 X.env.scope x)(hρ:ρ[i]? =some (.mu ds))(hd:(x==("__debug__":Str))=false:=by decide)(hcd:(x==("__classdict__":Str))=false:=by decide):mZ X ρ (.Name x pos) (.lst ds):=
 fun _ _ _ α _ H _ R k=>(ng hN hv hd hcd).to (let⟨_,h1,xs,h3,h4⟩:=R.mu i ds hρ; ⟨_,h1,k _ H (bT.refl _) ⟨α i,xs,rfl,pU.of h3,h4⟩⟩)
theorem aw.glob{x:Str}{v:V}{u:Value}(hg:Gl X x)(hm:X.mg x=some u)(r:RelV v u)(hn: ∀M H,Dn X.K M H d v)(hd:(x==("__debug__":Str))=false:=by decide):aw X ρ (.Name x pos) d:=
 fun _ _ _ _ _ H _ _ k=>(Cm hg hm r hd).to (k _ H (bT.refl _) (hn _ _))
theorem aY.nil:aY X ρ [] []:=fun _ _ _ _ _ H _ _ k=>gZ.to (k _ H (bT.refl _) rfl)
theorem aY.cons(h:aw X ρ e d)(t:aY X ρ es ds)(hs:au (e::es) X.env=(false,eval e X.env)::au es X.env:=by rfl):aY X ρ (e::es) (d::ds):=
 fun M0 H0 γ α σ H Q R k=>(eu iu xE hs).to (h M0 H0 γ α σ H _ R fun v H1 s1 d1=>t M0 H0 γ α σ H1 _ (R.next s1) fun vs H2 s2 d2=>k _ H2 (s1.trans s2) ⟨v,vs,rfl,d1.same s2,d2⟩)
theorem vM.nil:vM X ρ [] []:=fun _ _ _ _ _ H _ _ k=>gZ.to (k _ H (bT.refl _) rfl)
theorem vM.cons(h:mZ X ρ e d)(t:vM X ρ es ds)(hs:au (e::es) X.env=(false,eval e X.env)::au es X.env:=by rfl):vM X ρ (e::es) (d::ds):=
 fun M0 H0 γ α σ H Q R k=>(eu iu xE hs).to (h M0 H0 γ α σ H _ R fun v H1 s1 d1=>t M0 H0 γ α σ H1 _ (R.next s1) fun vs H2 s2 d2=>k _ H2 (s1.trans s2) ⟨v,vs,rfl,d1.same s2,d2⟩)
theorem ke{n:Nat}(h:n<=1000000):n<=sizeLine:=bE h (by decide)
theorem aw.tup{x1}(h:aY X ρ es ds)(hl:ds.length<=1000000:=by exact jR rfl):aw X ρ (.Tuple es x1 pos) (.tup ds):=
 fun M0 H0 γ α σ H Q R k=>(GS xE).to (h M0 H0 γ α σ H _ R fun vs H1 s1 d1=>⟨by rw [d1.len]; exact ke hl,fun q hq=>
  k _ _ (s1.trans (bG hq)) ⟨q,vs,rfl,kq.of bO,d1.same (bG hq)⟩⟩)
theorem uY{K:Frag}{M:MP}{H:Hp}{l:Addr}{ds:List D}{vs:List V}(hl:H l=none)(h:cN K M H ds vs):cN K (fun a=>M a\/a=l) H ds vs:=
 h.re fun a m=>m.elim .inl fun z=> .inr (by rw [z]; exact hl)
theorem eJ.lst(h:aY X ρ es ds)(hl:ds.length<=1000000:=by exact jR rfl):eJ X ρ (.List es pos) ds:=
 fun M0 H0 γ α σ H Q R k=>(Mf xE).to (h M0 H0 γ α σ H _ R fun vs H1 s1 d1=>⟨by rw [d1.len]; exact ke hl,fun q hq=>
  k q vs H1 _ s1 hq (bG hq) bO ((uY hq d1).same (bG hq))⟩)
theorem aw.op2{op:Operator}{r:R2}{da db:D}(ho:pA X (kf op) r)(ha:mZ X ρ a da)(hb:mZ X ρ b db)
  (hr: ∀(M:MP) (H:Hp) (x y:V) (Q:VK),qM X.K M H da x->qM X.K M H db y->(∀v H',bT H H'->Dn X.K M H' d v->Q v H')->r x y H Q):aw X ρ (.BinOp a op b pos) d:=
 fun M0 H0 γ α σ H Q R k=>(GV ho iu iu).to (ha M0 H0 γ α σ H _ R fun v H1 s1 d1=>hb M0 H0 γ α σ H1 _ (R.next s1) fun u H2 s2 d2=>hr _ H2 v u Q (d1.same s2) d2 fun w' H3 s3 d3=>k w' H3 ((s1.trans s2).trans s3) d3)
theorem aw.add{i j:Int}(ha:aw X ρ a (.int i))(hb:aw X ρ b (.int j)):aw X ρ (.BinOp a .Add b pos) (.int (i+j)):=
 aw.op2 LP ha.r hb.r fun M H x y Q dx dy k=>⟨i,j,dx,dy,k _ H (bT.refl _) rfl⟩
theorem aw.sub{i j:Int}(ha:aw X ρ a (.int i))(hb:aw X ρ b (.int j)):aw X ρ (.BinOp a .Sub b pos) (.int (i - j)):=
 aw.op2 LW ha.r hb.r fun M H x y Q dx dy k=>⟨i,j,dx,dy,k _ H (bT.refl _) rfl⟩
theorem aw.mul{i j:Int}(ha:aw X ρ a (.int i))(hb:aw X ρ b (.int j))(hc:J_ i j):aw X ρ (.BinOp a .Mult b pos) (.int (i * j)):=
 aw.op2 LH ha.r hb.r fun M H x y Q dx dy k=>⟨i,j,dx,dy,hc,k _ H (bT.refl _) rfl⟩
theorem aw.mod{i j:Int}(ha:aw X ρ a (.int i))(hb:aw X ρ b (.int j))(hc:0 < j):aw X ρ (.BinOp a .Mod b pos) (.int (i % j)):=
 aw.op2 Lq ha.r hb.r fun M H x y Q dx dy k=>⟨i,j,dx,dy,hc,k _ H (bT.refl _) rfl⟩
theorem aw.fdiv{i j:Int}(ha:aw X ρ a (.int i))(hb:aw X ρ b (.int j))(hc:MQ i j):aw X ρ (.BinOp a .FloorDiv b pos) (.int (i / j)):=
 aw.op2 JV ha.r hb.r fun M H x y Q dx dy k=>⟨i,j,dx,dy,hc,k _ H (bT.refl _) rfl⟩
theorem aw.neg{i:Int}(ha:aw X ρ a (.int i)):aw X ρ (.UnaryOp .USub a pos) (.int (-i)):=
 fun M0 H0 γ α σ H Q R k=>(Nn LI iu).to (ha M0 H0 γ α σ H _ R fun v H1 s1 d1=>⟨i,d1,k _ H1 s1 rfl⟩)
theorem aw.cmp{op:CmpOp}{r:R2}{da db:D}{c:Bool}(ho:pA X (cP op) r)(ha:mZ X ρ a da)(hb:mZ X ρ b db)(hm:fU op b=false)
  (hr: ∀(M:MP) (H:Hp) (x y:V) (Q:VK),qM X.K M H da x->qM X.K M H db y->Q (.bl c) H->r x y H Q):aw X ρ (.Compare a [op] [b] pos) (.bl c):=
 fun M0 H0 γ α σ H Q R k=>(JB ho iu iu hm).to (ha M0 H0 γ α σ H _ R fun v H1 s1 d1=>hb M0 H0 γ α σ H1 _ (R.next s1) fun u H2 s2 d2=>hr _ H2 v u Q (d1.same s2) d2 (k _ H2 (s1.trans s2) rfl))
theorem cU.cmp{op:CmpOp}{r:R2}{da db:D}{c:Bool}(ho:pA X (cP op) r)(ha:mZ X ρ a da)(hb:mZ X ρ b db)(hm:fU op b=false)
  (hr: ∀(M:MP) (H:Hp) (x y:V) (Q:VK),qM X.K M H da x->qM X.K M H db y->Q (.bl c) H->r x y H Q):cU X ρ (.Compare a [op] [b] pos) c:=
 fun M0 H0 γ α σ H Q R k=>(BO ho iu iu hm).to (ha M0 H0 γ α σ H _ R fun v H1 s1 d1=>hb M0 H0 γ α σ H1 _ (R.next s1) fun u H2 s2 d2=>hr _ H2 v u _ (d1.same s2) d2 ⟨c,rfl,k H2 (s1.trans s2)⟩)
inductive CI:CmpOp->(Int->Int->Bool)->Prop where
 | lt:CI .Lt fun i j=>decide (i < j)
 | le:CI .LtE fun i j=>decide (i<=j)
 | gt:CI .Gt fun i j=>decide (j < i)
 | ge:CI .GtE fun i j=>decide (j<=i)
 | eq:CI .Eq fun i j=>decide (i=j)
 | ne:CI .NotEq fun i j=> !decide (i=j)
theorem z5{i j:Int}:decide (V.int i=V.int j)=decide (i=j):=by
 by_cases h:i=j
 ·subst h; simp
 ·rw [decide_eq_false h,decide_eq_false fun q=>h (by injection q)]
theorem CI.op{op:CmpOp}{g:Int->Int->Bool}(h:CI op g):pA X (cP op) (JF fun i j=> .bl (g i j)):=by
 cases h with
 | lt=>exact ML
 | le=>exact M_
 | gt=>exact Nc
 | ge=>exact M6
 | eq=>
  intro pins s σ H x y v u Q I rx ry ⟨i,j,ex,ey,q⟩
  subst ex; subst ey
  exact Ny pins s σ H _ _ v u Q I rx ry ⟨rfl,by rw [z5]; exact q⟩
 | ne=>
  intro pins s σ H x y v u Q I rx ry ⟨i,j,ex,ey,q⟩
  subst ex; subst ey
  exact MO pins s σ H _ _ v u Q I rx ry ⟨rfl,by rw [z5]; exact q⟩
theorem CI.mark{op:CmpOp}{g:Int->Int->Bool}(h:CI op g)(b:Expr):fU op b=false:=by cases h <;> exact xY b
theorem aw.cI{op:CmpOp}{g:Int->Int->Bool}{i j:Int}(hc:CI op g)(ha:aw X ρ a (.int i))(hb:aw X ρ b (.int j)):aw X ρ (.Compare a [op] [b] pos) (.bl (g i j)):=
 aw.cmp hc.op ha.r hb.r (hc.mark b) fun M H x y Q dx dy k=>⟨i,j,dx,dy,k⟩
theorem cU.cI{op:CmpOp}{g:Int->Int->Bool}{i j:Int}(hc:CI op g)(ha:aw X ρ a (.int i))(hb:aw X ρ b (.int j)):cU X ρ (.Compare a [op] [b] pos) (g i j):=
 cU.cmp hc.op ha.r hb.r (hc.mark b) fun M H x y Q dx dy k=>⟨i,j,dx,dy,k⟩
theorem aw.chain{op op':CmpOp}{g g':Int->Int->Bool}{c:Expr}{i j k:Int}(h1:CI op g)(h2:CI op' g')(ha:aw X ρ a (.int i))(hb:aw X ρ b (.int j))(hc:aw X ρ c (.int k))
  (hm:lastMarks [op,op'] [b,c]=false:=by with_unfolding_all rfl):aw X ρ (.Compare a [op,op'] [b,c] pos) (.bl (g i j&&g' j k)):=
 fun M0 H0 γ α σ H Q R kk=>(Gd h1.op h2.op iu iu iu hm).to (ha M0 H0 γ α σ H _ R fun v H1 s1 d1=>hb M0 H0 γ α σ H1 _ (R.next s1) fun u H2 s2 d2=>⟨i,j,d1,d2,g i j,rfl,by
  cases e:g i j with
  | true=>exact uv (hc M0 H0 γ α σ H2 _ ((R.next s1).next s2) fun z H3 s3 d3=>⟨j,k,d2,d3,by have:=kk (.bl (g' j k)) H3 ((s1.trans s2).trans s3); rw [e]at this; exact this rfl⟩)
  | false=>exact sG (by have:=kk (.bl false) H2 (s1.trans s2); rw [e]at this; exact this rfl)⟩)
theorem cU.chain{op op':CmpOp}{g g':Int->Int->Bool}{c:Expr}{i j k:Int}(h1:CI op g)(h2:CI op' g')(ha:aw X ρ a (.int i))(hb:aw X ρ b (.int j))(hc:aw X ρ c (.int k))
  (hm:lastMarks [op,op'] [b,c]=false:=by with_unfolding_all rfl):cU X ρ (.Compare a [op,op'] [b,c] pos) (g i j&&g' j k):=
 fun M0 H0 γ α σ H Q R kk=>(Hh h1.op h2.op iu iu iu hm).to (ha M0 H0 γ α σ H _ R fun v H1 s1 d1=>hb M0 H0 γ α σ H1 _ (R.next s1) fun u H2 s2 d2=>⟨i,j,d1,d2,g i j,rfl,by
  cases e:g i j with
  | true=>exact uv (hc M0 H0 γ α σ H2 _ ((R.next s1).next s2) fun z H3 s3 d3=>⟨j,k,d2,d3,_,rfl,by have:=kk H3 ((s1.trans s2).trans s3); rw [e]at this; exact this⟩)
  | false=>exact sG ⟨_,rfl,by have:=kk H2 (s1.trans s2); rw [e]at this; exact this⟩⟩)
theorem cU.val{c:Bool}(h:aw X ρ e (.bl c))(he: ∀whole,isTrue e X.env whole=(do let v<-whole; standAt e.pos; kS [v] (truthy v)):=by intro _; rfl):cU X ρ e c:=
 fun M0 H0 γ α σ H Q R k=>(L5 iu he).to (h M0 H0 γ α σ H _ R fun v H1 s1 d1=>⟨c,d1,k H1 s1⟩)
theorem ju.t{c:Bool}(h:ju X ρ e c):cU X ρ e c:=fun M0 H0 γ α σ H Q R k=>OG.pt.to (h M0 H0 γ α σ H Q R k)
theorem cU.not{c:Bool}(h:cU X ρ a c):cU X ρ (.UnaryOp .Not a pos) (!c):=
 fun M0 H0 γ α σ H Q R k=>(LA Fc).to (h M0 H0 γ α σ H _ R fun H1 s1=>k H1 s1)
theorem aw.not{c:Bool}(h:aw X ρ a (.bl c)):aw X ρ (.UnaryOp .Not a pos) (.bl (!c)):=
 fun M0 H0 γ α σ H Q R k=>(LG iu).to (h M0 H0 γ α σ H _ R fun v H1 s1 d1=>⟨c,d1,k _ H1 s1 rfl⟩)
theorem ju.and1{c:Bool}(h:cU X ρ a c):ju X ρ (.BoolOp .And [a] pos) c:=fun M0 H0 γ α σ H Q R k=>(pw_and1 Fc).to (h M0 H0 γ α σ H Q R k)
theorem ju.or1{c:Bool}(h:cU X ρ a c):ju X ρ (.BoolOp .Or [a] pos) c:=fun M0 H0 γ α σ H Q R k=>(pw_or1 Fc).to (h M0 H0 γ α σ H Q R k)
theorem ju.and{c c':Bool}(h:cU X ρ a c)(h':c=true->ju X ρ (.BoolOp .And (b::es) pos) c'):ju X ρ (.BoolOp .And (a::b::es) pos) (c&&c'):=
 fun M0 H0 γ α σ H Q R k=>(pw_and Fc OG).to (h M0 H0 γ α σ H _ R fun H1 s1=>by
  cases e:c with
  | true=>rw [e]at k; exact uv (h' e M0 H0 γ α σ H1 _ (R.next s1) fun H2 s2=>k H2 (s1.trans s2))
  | false=>rw [e]at k; exact sG (k H1 s1))
theorem ju.or{c c':Bool}(h:cU X ρ a c)(h':c=false->ju X ρ (.BoolOp .Or (b::es) pos) c'):ju X ρ (.BoolOp .Or (a::b::es) pos) (c || c'):=
 fun M0 H0 γ α σ H Q R k=>(pw_or Fc OG).to (h M0 H0 γ α σ H _ R fun H1 s1=>by
  cases e:c with
  | false=>rw [e]at k; exact sG (h' e M0 H0 γ α σ H1 _ (R.next s1) fun H2 s2=>k H2 (s1.trans s2))
  | true=>rw [e]at k; exact uv (k H1 s1))
theorem aw.one{op}(h:aw X ρ a d):aw X ρ (.BoolOp op [a] pos) d:=fun M0 H0 γ α σ H Q R k=>(LO iu).to (h M0 H0 γ α σ H Q R k)
theorem aw.and{c c':Bool}(h:aw X ρ a (.bl c))(h':c=true->aw X ρ (.BoolOp .And (b::es) pos) (.bl c')):aw X ρ (.BoolOp .And (a::b::es) pos) (.bl (c&&c')):=
 fun M0 H0 γ α σ H Q R k=>(Lj iu iu).to (h M0 H0 γ α σ H _ R fun v H1 s1 d1=>⟨c,d1,by
  cases e:c with
  | true=>rw [e]at k; exact uv (h' e M0 H0 γ α σ H1 _ (R.next s1) fun u H2 s2 d2=>k u H2 (s1.trans s2) d2)
  | false=>rw [e]at k; exact sG (k _ H1 s1 rfl)⟩)
end
structure qD where
 N:fm->Prop
 R:D->Prop
 B:fm->Prop:=fun _=>False
 C:fm->Prop:=fun _=>False
def ends(K:Frag)(M0:MP)(H0:Hp)(γ:List (D×V))(P:qD):Ends where
 nx:=fun σ H=> ∃α ρ,Rep K M0 H0 γ α ρ σ H/\P.N ρ
 rt:=fun v H=> ∃d,P.R d/\bT H0 H/\Dn K M0 H d v
 bk:=fun σ H=> ∃α ρ,Rep K M0 H0 γ α ρ σ H/\P.B ρ
 ct:=fun σ H=> ∃α ρ,Rep K M0 H0 γ α ρ σ H/\P.C ρ
def W1(X:Cx)(M0:MP)(H0:Hp)(st:Stmt)(ρ:fm)(P:qD):Prop:= ∀(γ:List (D×V)) (α:Nat->Addr) (σ:St) (H:Hp),Rep X.K M0 H0 γ α ρ σ H->tS X st (ends X.K M0 H0 γ P) σ H
def WS(X:Cx)(M0:MP)(H0:Hp)(st:List Stmt)(ρ:fm)(P:qD):Prop:= ∀(γ:List (D×V)) (α:Nat->Addr) (σ:St) (H:Hp),Rep X.K M0 H0 γ α ρ σ H->oM X st (ends X.K M0 H0 γ P) σ H
section
variable {X:Cx}{M0:MP}{H0:Hp}{st:Stmt}{sts:List Stmt}{ρ:fm}{P P':qD}{e a b c:Expr}{d:D}{ds:List D}{pos pos':Pos}{En En':Ends}{σ:St}{H:Hp}
theorem SP.mono{pins:List (Addr×Obj)}{f:Flow}{s:ai}(h1: ∀σ H,En.nx σ H->En'.nx σ H)(h2: ∀v H,En.rt v H->En'.rt v H)(h3: ∀σ H,En.bk σ H->En'.bk σ H)(h4: ∀σ H,En.ct σ H->En'.ct σ H)(h:SP X pins En f s):SP X pins En' f s:=by
 cases f with
 | next=>obtain⟨σ,H,I,q⟩:=h; exact⟨σ,H,I,h1 _ _ q⟩
 | brk=>obtain⟨σ,H,I,q⟩:=h; exact⟨σ,H,I,h3 _ _ q⟩
 | cont=>obtain⟨σ,H,I,q⟩:=h; exact⟨σ,H,I,h4 _ _ q⟩
 | ret u=>obtain⟨v,σ,H,I,r,q⟩:=h; exact⟨v,σ,H,I,r,h2 _ _ q⟩
theorem tS.mono(h1: ∀σ H,En.nx σ H->En'.nx σ H)(h2: ∀v H,En.rt v H->En'.rt v H)(h3: ∀σ H,En.bk σ H->En'.bk σ H)(h4: ∀σ H,En.ct σ H->En'.ct σ H)(h:tS X st En σ H):tS X st En' σ H:=
 fun pins s I=>fg (h pins s I) fun f s' q=>SP.mono h1 h2 h3 h4 q
theorem oM.mono(h1: ∀σ H,En.nx σ H->En'.nx σ H)(h2: ∀v H,En.rt v H->En'.rt v H)(h3: ∀σ H,En.bk σ H->En'.bk σ H)(h4: ∀σ H,En.ct σ H->En'.ct σ H)(h:oM X sts En σ H):oM X sts En' σ H:=
 fun pins s I=>fg (h pins s I) fun f s' q=>SP.mono h1 h2 h3 h4 q
theorem WS.nil(h:P.N ρ):WS X M0 H0 [] ρ P:=fun γ α σ H R=>tH.to ⟨α,ρ,R,h⟩
theorem WS.cons(h:W1 X M0 H0 st ρ {P with N:=fun ρ'=>WS X M0 H0 sts ρ' P}):WS X M0 H0 (st::sts) ρ P:=fun γ α σ H R=>
 (dS t_ f_).to (tS.mono (En:=ends X.K M0 H0 γ {P with N:=fun ρ'=>WS X M0 H0 sts ρ' P}) (fun σ' H' ⟨α',ρ',R',w⟩=>w γ α' σ' H' R') (fun _ _ q=>q) (fun _ _ q=>q) (fun _ _ q=>q) (h γ α σ H R))
theorem WS.one(h:W1 X M0 H0 st ρ P):WS X M0 H0 [st] ρ P:=fun γ α σ H R=>(tJ t_).to (h γ α σ H R)
theorem W1.imp(h:W1 X M0 H0 st ρ P)(h1: ∀ρ,P.N ρ->P'.N ρ)(h2: ∀d,P.R d->P'.R d)(h3: ∀ρ,P.B ρ->P'.B ρ)(h4: ∀ρ,P.C ρ->P'.C ρ):W1 X M0 H0 st ρ P':=fun γ α σ H R=>
 tS.mono (En:=ends X.K M0 H0 γ P) (fun _ _ ⟨α,ρ,R,q⟩=>⟨α,ρ,R,h1 _ q⟩) (fun _ _ ⟨d,q,r⟩=>⟨d,h2 _ q,r⟩) (fun _ _ ⟨α,ρ,R,q⟩=>⟨α,ρ,R,h3 _ q⟩) (fun _ _ ⟨α,ρ,R,q⟩=>⟨α,ρ,R,h4 _ q⟩) (h γ α σ H R)
theorem WS.freeze{i:Nat}(hi:ρ[i]? =some (.mu ds))(h:WS X M0 H0 sts (ρ.set i (.im (.lst ds))) P):WS X M0 H0 sts ρ P:=fun γ α σ H R=>h γ α σ H (R.freeze hi)
theorem W1.ret(h:aw X ρ e d)(q:P.R d):W1 X M0 H0 (.Return (some e) pos) ρ P:=fun γ α σ H R=>
 (L6 iu).to (h M0 H0 γ α σ H _ R fun v H' s x=>⟨d,q,R.same.trans s,x.less fun a m=> .inl m⟩)
theorem W1.expr(h:aw X ρ e d)(q:P.N ρ)(hs:dh e none pos.line X.env=pure false:=by rfl):W1 X M0 H0 (.Expr e pos) ρ P:=fun γ α σ H R=>
 (oQ iu hs).to (h M0 H0 γ α σ H _ R fun v H' s x=>⟨α,ρ,R.next s,q⟩)
theorem W1.ite{s1 s2:List Stmt}{t:Bool}(h:cU X ρ c t)(h1:t=true->WS X M0 H0 s1 ρ P)(h2:t=false->WS X M0 H0 s2 ρ P):W1 X M0 H0 (.If c s1 s2 pos) ρ P:=fun γ α σ H R=>
 (zf Fc f_ f_).to (h M0 H0 γ α σ H _ R fun H1 s=>by
  cases e:t with
  | true=>exact uv (h1 e γ α σ H1 (R.next s))
  | false=>exact sG (h2 e γ α σ H1 (R.next s)))
theorem W1.set{i:Nat}{x:Str}(hN:X.N.Nodup)(hi:X.N[i]? =some x)(hx:Loc X.env.scope x)(hl:i < ρ.length)(h:aw X ρ e d)(q:P.N (ρ.set i (.im d)))
  (hs:dh e (some (.Name x pos')) pos.line X.env=pure false:=by rfl)(hf:X.fn x=true\/X.env.scope.names.lookup x=some .local:=by first | exact .inl rfl | exact .inr rfl | assumption):W1 X M0 H0 (.Assign [.Name x pos'] e pos) ρ P:=fun γ α σ H R=>
 (rG hN hi hx iu hs hf).to (h M0 H0 γ α σ H _ R fun v H' s x=>⟨α,_,(R.next s).set_im hl x,q⟩)
theorem W1.setF{i:Nat}{x:Str}(hN:X.N.Nodup)(hi:X.N[i]? =some x)(hx:Loc X.env.scope x)(hl:i < ρ.length)(h:eJ X ρ e ds)(q:P.N (ρ.set i (.mu ds)))
  (hs:dh e (some (.Name x pos')) pos.line X.env=pure false:=by rfl)(hf:X.fn x=true\/X.env.scope.names.lookup x=some .local:=by first | exact .inl rfl | exact .inr rfl | assumption):W1 X M0 H0 (.Assign [.Name x pos'] e pos) ρ P:=fun γ α σ H R=>
 (rG hN hi hx iu hs hf).to (h M0 H0 γ α σ H _ R fun l xs H1 H' s n s' y z=>⟨_,_,(R.next s).set_mu hl n s' y z,q⟩)
def tG(X:Cx)(tg:Expr):TG:=fun v σ H Q=> ∀(pins:List (Addr×Obj)) (s:ai) (u:Value),Inv X pins σ H s->RelV v u->wpAny (model X.prog X.w) X.A (qp tg X.env u) (fun _ s'=> ∃σ' H',Inv X pins σ' H' s'/\Q σ' H') X.xe s
theorem Us{tg:Expr}:PG X tg (tG X tg):=fun pins s σ H v u Q I r h=>h pins s u I r
theorem _root_.L2.PG.to{tg:Expr}{t:TG}{v:V}{Q:St->Hp->Prop}(h:PG X tg t)(q:t v σ H Q):tG X tg v σ H Q:=fun pins s u I r=>h pins s σ H v u Q I r q
def Cd(X:Cx)(tg:Expr)(d:D)(ρ ρ':fm):Prop:= ∀(M0:MP) (H0:Hp) (γ:List (D×V)) (α:Nat->Addr) (σ:St) (H:Hp) (v:V) (Q:St->Hp->Prop),Rep X.K M0 H0 γ α ρ σ H->Dn X.K (MM M0 ρ α) H d v->
 (∀σ',Rep X.K M0 H0 γ α ρ' σ' H->Q σ' H)->tG X tg v σ H Q
theorem Cd.name{i:Nat}{x:Str}(hN:X.N.Nodup)(hi:X.N[i]? =some x)(hx:Loc X.env.scope x)(hl:i < ρ.length)
  (hf:X.fn x=true\/X.env.scope.names.lookup x=some .local:=by first | exact .inl rfl | exact .inr rfl | assumption):Cd X (.Name x pos) d ρ (ρ.set i (.im d)):=fun M0 H0 γ α σ H v Q R h k=>
 (tM hN hi hx hf).to (k _ (R.set_im hl h))
theorem FJ{body:List Stmt}{γ γ':List (D×V)}{α:Nat->Addr}{J:fm->Prop}(hg: ∀{α:Nat->Addr} {ρ:fm} {σ:St} {H:Hp},Rep X.K M0 H0 γ' α ρ σ H->Rep X.K M0 H0 γ α ρ σ H)
  (R:Rep X.K M0 H0 γ' α ρ σ H)(w:WS X M0 H0 body ρ {P with N:=J,C:=J,B:=P.N}):
  oM X body {ends X.K M0 H0 γ P with nx:=fun σ H=> ∃α ρ,Rep X.K M0 H0 γ' α ρ σ H/\J ρ,ct:=fun σ H=> ∃α ρ,Rep X.K M0 H0 γ' α ρ σ H/\J ρ,bk:=(ends X.K M0 H0 γ P).nx} σ H:=
 oM.mono (En:=ends X.K M0 H0 γ' {P with N:=J,C:=J,B:=P.N}) (fun _ _ q=>q) (fun _ _ q=>q) (fun _ _ ⟨α,ρ,R,q⟩=>⟨α,ρ,hg R,q⟩) (fun _ _ q=>q) (w γ' α σ H R)
theorem W1.while{body:List Stmt}(I:fm->Prop)(μ:fm->Nat)(hp:vC (model X.prog X.w) X.A X.env X.xe)(h0:I ρ)
  (ht: ∀ρ,I ρ-> ∃t,cU X ρ c t/\(t=true->WS X M0 H0 body ρ {P with N:=fun ρ'=>I ρ'/\μ ρ' < μ ρ,C:=fun ρ'=>I ρ'/\μ ρ' < μ ρ,B:=P.N})/\(t=false->P.N ρ)):W1 X M0 H0 (.While c body [] pos) ρ P:=fun γ α σ H R=>by
 refine(zE hp Fc f_).to ⟨fun m σ H=> ∃α ρ,Rep X.K M0 H0 γ α ρ σ H/\I ρ/\μ ρ=m,⟨μ ρ,α,ρ,R,h0,rfl⟩, ?_⟩
 rintro m σ2 H2 ⟨α2,ρ2,R2,i2,rfl⟩
 obtain⟨t,h1,h2,h3⟩:=ht ρ2 i2
 refine h1 M0 H0 γ α2 σ2 H2 _ R2 fun H3 s=> ?_
 cases e:t with
 | true=>
  refine uv ⟨fun σ H=> ∃α ρ,Rep X.K M0 H0 γ α ρ σ H/\(I ρ/\μ ρ < μ ρ2),fun σ' H' ⟨α',ρ',R',i',l'⟩=>⟨_,l',α',ρ',R',i',rfl⟩, ?_⟩
  exact FJ (fun r=>r) (R2.next s) (h2 e)
 | false=>exact sG ⟨α2,ρ2,R2.next s,h3 e⟩
def My(X:Cx)(o:Expr)(name:Str)(e:Expr)(apos cpos:Pos):Prop:=j9 o name X.env (eval o X.env)=eval o X.env/\
 ((eQ cpos (au [e] X.env)).all (fun x=> !x.1)&&(backToKw cpos (EW [] X.env)).all (fun x=>x.1.isSome)&&decide ([e].length+([]:List Keyword).length+(if([]:List Keyword).isEmpty then 0 else 1) < 30))=true/\
 (apos.endLine==cpos.line)=true/\au [e] X.env= [(false,eval e X.env)]
theorem W1.mt1{i:Nat}{x name:Str}{id:String}{es:List D}{r:V->List V->Hp->VK->Prop}{p1 p2 p3:Pos}(pa:PlainAttrs "list")(sl:Slot "list" name id)(hty:typeOf (.builtin id)=pure (.type "method_descriptor"))(hm:Og X id r)
  (hi:X.N[i]? =some x)(hv:y7 X.env.scope x)(hρ:ρ[i]? =some (.mu ds))(h:aw X ρ e d)
  (hr: ∀(M:MP) (H:Hp) (l:Addr) (xs:List V) (v:V) (Q:VK),H l=some (.lst xs)->cN X.K M H ds xs->Dn X.K M H d v->(∀u ys,cN X.K M H es ys->Q u (upd H l (.lst ys)))->r (.ref l) [v] H Q)(q:P.N (ρ.set i (.mu es)))
  (mc:My X (.Name x p1) name e p2 p3)(hd:(x==("__debug__":Str))=false:=by decide)(hcd:(x==("__classdict__":Str))=false:=by decide)(hsw:dh (.Call (.Attribute (.Name x p1) name p2) [e] [] p3) none pos.line X.env=pure false:=by rfl):
  W1 X M0 H0 (.Expr (.Call (.Attribute (.Name x p1) name p2) [e] [] p3) pos) ρ P:=fun γ α σ H R=>by
 obtain⟨m1,m2,m3,m4⟩:=mc
 obtain⟨a1,a2,xs,a3,a4⟩:=R.mu i ds hρ
 refine(oQ (Im pa sl hty hm (ng hi hv hd hcd) xE m1 m2 m3 m4 rfl) hsw).to ?_
 refine⟨_,a2, .inl ⟨rfl,_,pU.of a3⟩,(aY.cons h aY.nil m4) M0 H0 γ α σ H _ R fun vs H1 s y=> ?_⟩
 obtain⟨v,r,rfl,e1,e2⟩:=y
 cases e2
 exact hr _ H1 (α i) xs v _ (s _ _ a3) (a4.same s) e1 fun u ys hy=>⟨α,_,(R.next s).upd_mu hρ hy,q⟩
theorem Ct{n:Nat}(h:n < 1000000):n < sizeLine:=bf h (by decide)
theorem W1.append{i:Nat}{x:Str}{p1 p2 p3:Pos}(hi:X.N[i]? =some x)(hv:y7 X.env.scope x)(hρ:ρ[i]? =some (.mu ds))(h:aw X ρ e d)(hl:ds.length < 1000000)(q:P.N (ρ.set i (.mu (ds ++ [d]))))
  (mc:My X (.Name x p1) "append" e p2 p3)(hd:(x==("__debug__":Str))=false:=by decide)(hcd:(x==("__classdict__":Str))=false:=by decide)(hsw:dh (.Call (.Attribute (.Name x p1) "append" p2) [e] [] p3) none pos.line X.env=pure false:=by rfl):
  W1 X M0 H0 (.Expr (.Call (.Attribute (.Name x p1) "append" p2) [e] [] p3) pos) ρ P:=
 W1.mt1 nW PySem.F.slot_list_append PySem.F.type_list_append oX hi hv hρ h (fun M H l xs v Q a b c k=>⟨l,xs,v,rfl,rfl,a,by rw [b.len]; exact Ct hl,k _ _ (cN.app b (cN.one c))⟩) q mc hd hcd hsw
theorem Hd(l b:Addr)(xs ys:Array Value)(n m:Nat)(dd:Option Addr)(sl:Array (Option Value))(h0: ¬(!xs.isEmpty&&iT (xs.size+ys.size))=true)(h1:xs.size<=sizeLine)(h2:xs.size+ys.size<=sizeLine):
  Meets (dF.«list.extend» ⟨[.ref l, .ref b], []⟩) (fun _ R s=>s.heap.get? l=some {cls:= .type "list",data:= .seq xs n}/\s.heap.get? b=some {cls:= .type "list",dict:=dd,data:= .seq ys m,slots:=sl}/\
   R (.ok (.ret aR)) {s with heap:=s.heap.update l (cm fun x=>x ++ ys),toks:=s.toks}):=
 .of_wp fun prog w A R s h=>by
  obtain⟨hp,g,d,tk,os⟩:=s
  obtain⟨hl,hb,h⟩:=h
  have f2:=iS
  have f3:=BG
  have hz:(xs ++ ys).size<=sizeLine+1:=by rw [Array.size_append]; omega
  wp_walk using (Lb hl rfl (hz:=h1) (_hz':=hz)),cC hl,cC hb
  exact⟨_,rfl,h⟩
theorem Dy(l b:Addr)(xs ys:Array Value)(n m:Nat)(dd:Option Addr)(sl:Array (Option Value))(h0: ¬(!xs.isEmpty&&iT (xs.size+ys.size))=true)(h1:xs.size<=sizeLine)(h2:xs.size+ys.size<=sizeLine):
  Meets (dF.«list.extend» ⟨[.ref l, .ref b], []⟩) (fun _ R s=>s.heap.get? l=some {cls:= .type "list",data:= .seq xs n}/\s.heap.get? b=some {cls:= .type "tuple",dict:=dd,data:= .seq ys m,slots:=sl}/\
   R (.ok (.ret aR)) {s with heap:=s.heap.update l (cm fun x=>x ++ ys),toks:=s.toks}):=
 .of_wp fun prog w A R s h=>by
  obtain⟨hp,g,d,tk,os⟩:=s
  obtain⟨hl,hb,h⟩:=h
  have f2:=iS
  have f3:=BG
  have hz:(xs ++ ys).size<=sizeLine+1:=by rw [Array.size_append]; omega
  wp_walk using (Lb hl rfl (hz:=h1) (_hz':=hz)),cC hl,cC hb
  exact⟨_,rfl,h⟩
def MJ(K:Frag):V->List V->Hp->VK->Prop:=fun x vs H Q=> ∃l b xs zs,x= .ref l/\vs= [.ref b]/\H l=some (.lst xs)/\(pU K H b zs\/kq K H b zs)/\xs.length+zs.length<=sizeLine/\Q .non (upd H l (.lst (xs ++ zs)))
theorem Jn:Og X "list.extend" (MJ X.K):=by
 intro pins s σ H x vs v us Q I rx rv h
 obtain⟨l,b,xs,zs,rfl,rfl,hH,hB,hz,q⟩:=h
 cases rx
 obtain⟨u,rfl,ru⟩:=rv.one
 cases ru
 obtain⟨z,its,n,r,hl,e⟩:=I.lstM hH
 have key: ∀its2:List Value,Vals zs its2->its.toArray.size+its2.toArray.size<=sizeLine/\ ¬(!its.toArray.isEmpty&&iT (its.toArray.size+its2.toArray.size))=true:=fun its2 r2=>by
  have hl2:=r2.length
  have hsz:its.toArray.size+its2.toArray.size<=sizeLine:=by rw [aC,aC]; omega
  refine⟨hsz, ?_⟩
  rw [Hm hsz,lX]
  exact aF
 have fin: ∀its2:List Value,Vals zs its2->EP X pins σ Q aR {s with heap:=s.heap.update l (cm fun x=>x ++ its2.toArray),toks:=s.toks}:=fun its2 r2=>
  ⟨.non,_,I.lset (its':=its ++ its2) hH e (by simp) (r.append r2) (by rw [ao]; exact hz),rfl,q⟩
 rcases hB with hB | hB
 ·obtain⟨its2,r2,⟨⟨oc,od,odt,osl⟩,n2,e2,ec,ed,edt⟩,z2⟩:=I.list hB
  simp only at ec ed edt
  subst ec ed edt
  obtain⟨k1,k2⟩:=key its2 r2
  exact call_meets F.slot_list_extend ⟨_,e,rfl⟩ F.entry_list_extend (F.args_list_extend_2 _ _) (Hd l b its.toArray its2.toArray n n2 none osl k2 (by rw [aC]; omega) k1) ⟨e,e2,fin its2 r2⟩
 ·obtain⟨its2,r2,⟨⟨oc,od,odt,osl⟩,e2,ec,n2,edt⟩,z2⟩:=I.tuple hB
  simp only at ec edt
  subst ec edt
  obtain⟨k1,k2⟩:=key its2 r2
  exact call_meets F.slot_list_extend ⟨_,e,rfl⟩ F.entry_list_extend (F.args_list_extend_2 _ _) (Dy l b its.toArray its2.toArray n n2 od osl k2 (by rw [aC]; omega) k1) ⟨e,e2,fin its2 r2⟩
end
section
variable {X:Cx}{M0:MP}{H0:Hp}{ρ:fm}{P:qD}{e a b c:Expr}{es:List Expr}{d:D}{ds:List D}{pos p:Pos}
theorem cN.at{K:Frag}{M:MP}{H:Hp}{ds:List D}{vs:List V}{k:Int}{d:D}(h:cN K M H ds vs)(e:wg ds k=some d): ∃v,wg vs k=some v/\Dn K M H d v:=by
 obtain⟨j,h1,h2,h3,h4,h5⟩:=xW e
 obtain⟨v,q1,q2⟩:=h.get h2
 refine⟨v, ?_,q2⟩
 unfold wg at e ⊢
 rw [h.len]
 cases z:E_ ds.length k with
 | none=>rw [z]at e; cases e
 | some j'=>
  obtain⟨w,_⟩:=tf z
  rw [h1]at w; cases w
  exact q1
theorem aw.ixL{k:Int}(ha:mZ X ρ a (.lst ds))(hb:aw X ρ b (.int k))(hk:wg ds k=some d)(hs:qR b:=by intro _ _; rfl):aw X ρ (.Subscript a b pos) d:=
 fun M0 H0 γ α σ H Q R kk=>(Fo J0 iu iu hs).to (ha M0 H0 γ α σ H _ R fun v H1 s1 d1=>hb M0 H0 γ α σ H1 _ (R.next s1) fun u H2 s2 d2=>by
  obtain⟨q,xs,rfl,sq,dn⟩:=d1.same s2
  obtain⟨w,e1,e2⟩:=dn.at hk
  exact⟨q,xs,k,w,rfl,d2,sq,e1,kk w H2 (s1.trans s2) e2⟩)
theorem aw.ixT{k:Int}(ha:aw X ρ a (.tup ds))(hb:aw X ρ b (.int k))(hk:wg ds k=some d)(hs:qR b:=by intro _ _; rfl):aw X ρ (.Subscript a b pos) d:=
 fun M0 H0 γ α σ H Q R kk=>(Fo L9 iu iu hs).to (ha M0 H0 γ α σ H _ R fun v H1 s1 d1=>hb M0 H0 γ α σ H1 _ (R.next s1) fun u H2 s2 d2=>by
  obtain⟨q,xs,rfl,sq,dn⟩:=d1.same s2
  obtain⟨w,e1,e2⟩:=dn.at hk
  exact⟨q,xs,k,w,rfl,d2,sq,e1,kk w H2 (s1.trans s2) e2⟩)
theorem aw.callB{id:String}{x:Str}{r:List V->Hp->VK->Prop}(hc:g7 X (.builtin id) r)(hg:Gl X x)(hm:X.mg x=none)(hv:dE x=some (.builtin id))(ha:vM X ρ (e::es) ds)
  (hr: ∀(M:MP) (H:Hp) (vs:List V) (Q:VK),zJ X.K M H ds vs->(∀v H',bT H H'->Dn X.K M H' d v->Q v H')->r vs H Q)(hn:x≠"__name__":=by decide)(hdb:(x==("__debug__":Str))=false:=by decide)
  (he:au (e::es) X.env=(false,eval e X.env)::au es X.env:=by rfl)(hpl:(eQ pos (au es X.env)).any (·.1)=false:=by rfl):aw X ρ (.Call (.Name x p) (e::es) [] pos) d:=
 fun M0 H0 γ α σ H Q R k=>(iy hc hg hm hv xE hn hdb he hpl).to (ha M0 H0 γ α σ H _ R fun vs H1 s1 d1=>hr _ H1 vs Q d1 fun v H2 s2 d2=>k v H2 (s1.trans s2) d2)
theorem aw.callTy{T:String}{x:Str}{r:List V->Hp->VK->Prop}(hc:g7 X (.type T) r)(hg:Gl X x)(hm:X.mg x=none)(hv:dE x=some (.type T))(ha:vM X ρ (e::es) ds)
  (hr: ∀(M:MP) (H:Hp) (vs:List V) (Q:VK),zJ X.K M H ds vs->(∀v H',bT H H'->Dn X.K M H' d v->Q v H')->r vs H Q)(hn:x≠"__name__":=by decide)(hdb:(x==("__debug__":Str))=false:=by decide)
  (he:au (e::es) X.env=(false,eval e X.env)::au es X.env:=by rfl)(hpl:(eQ pos (au es X.env)).any (·.1)=false:=by rfl):aw X ρ (.Call (.Name x p) (e::es) [] pos) d:=
 fun M0 H0 γ α σ H Q R k=>(km hc hg hm hv xE hn hdb he hpl).to (ha M0 H0 γ α σ H _ R fun vs H1 s1 d1=>hr _ H1 vs Q d1 fun v H2 s2 d2=>k v H2 (s1.trans s2) d2)
theorem eJ.callTy{T:String}{x:Str}{fs:List D}{r:List V->Hp->VK->Prop}(hc:g7 X (.type T) r)(hg:Gl X x)(hm:X.mg x=none)(hv:dE x=some (.type T))(ha:vM X ρ (e::es) ds)
  (hr: ∀(M:MP) (H:Hp) (vs:List V) (Q:VK),zJ X.K M H ds vs->(∀l xs H1 H',bT H H1->H1 l=none->bT H1 H'->H' l=some (.lst xs)->cN X.K (fun a=>M a\/a=l) H' fs xs->Q (.ref l) H')->r vs H Q)(hn:x≠"__name__":=by decide)(hdb:(x==("__debug__":Str))=false:=by decide)
  (he:au (e::es) X.env=(false,eval e X.env)::au es X.env:=by rfl)(hpl:(eQ pos (au es X.env)).any (·.1)=false:=by rfl):eJ X ρ (.Call (.Name x p) (e::es) [] pos) fs:=
 fun M0 H0 γ α σ H Q R k=>(km hc hg hm hv xE hn hdb he hpl).to (ha M0 H0 γ α σ H _ R fun vs H1 s1 d1=>hr _ H1 vs Q d1 fun l xs H2 H3 s2 n s3 q dn=>k l xs H2 H3 (s1.trans s2) n s3 q dn)
theorem vM.one(h:mZ X ρ e d)(hs:au [e] X.env= [(false,eval e X.env)]:=by rfl):vM X ρ [e] [d]:=vM.cons h vM.nil hs
def wZ:D->List D->Prop
 | .lst ds,es=>ds=es
 | .tup ds,es=>ds=es
 | _,_=>False
theorem yo{K:Frag}{M:MP}{H:Hp}{d:D}{ds:List D}{v:V}(hq:wZ d ds)(h:qM K M H d v): ∃q xs,v= .ref q/\(pU K H q xs\/kq K H q xs)/\cN K M H ds xs:=by
 cases d with
 | lst es=>cases hq; obtain⟨q,xs,e,s,r⟩:=h; exact⟨q,xs,e, .inl s,r⟩
 | tup es=>cases hq; obtain⟨q,xs,e,s,r⟩:=h; exact⟨q,xs,e, .inr s,r⟩
 | _=>exact hq.elim
theorem aw.len(hg:Gl X "len")(hm:X.mg "len"=none)(h:mZ X ρ e d)(hq:wZ d ds)(he:au [e] X.env= [(false,eval e X.env)]:=by rfl):aw X ρ (.Call (.Name "len" p) [e] [] pos) (.int ds.length):=
 aw.callB xC hg hm PySem.boot_len (vM.one h he) (fun M H vs Q dn k=>by
  obtain⟨v,r,rfl,e1,e2⟩:=dn
  cases e2
  obtain⟨q,xs,rfl,s,z⟩:=yo hq e1
  exact⟨q,xs,rfl,s,k _ H (bT.refl _) (by rw [z.len]; exact rfl)⟩) (he:=he)
theorem eJ.list(hg:Gl X "list")(hm:X.mg "list"=none)(hv:dE "list"=some (.type "list"))(h:mZ X ρ e d)(hq:wZ d ds)(he:au [e] X.env= [(false,eval e X.env)]:=by rfl):eJ X ρ (.Call (.Name "list" p) [e] [] pos) ds:=
 eJ.callTy yn hg hm hv (vM.one h he) (fun M H vs Q dn k=>by
  obtain⟨v,r,rfl,e1,e2⟩:=dn
  cases e2
  obtain⟨q,xs,rfl,s,z⟩:=yo hq e1
  exact⟨q,xs,rfl,s,fun l hl=>k l xs H _ (bT.refl _) hl (bG hl) bO ((uY hl z).same (bG hl))⟩) (he:=he)
theorem aw.tuple(hg:Gl X "tuple")(hm:X.mg "tuple"=none)(hv:dE "tuple"=some (.type "tuple"))(h:mZ X ρ e d)(hq:wZ d ds)(he:au [e] X.env= [(false,eval e X.env)]:=by rfl):aw X ρ (.Call (.Name "tuple" p) [e] [] pos) (.tup ds):=
 aw.callTy vY hg hm hv (vM.one h he) (fun M H vs Q dn k=>by
  obtain⟨v,r,rfl,e1,e2⟩:=dn
  cases e2
  obtain⟨q,xs,rfl,s,z⟩:=yo hq e1
  refine⟨q,xs,rfl, ?_⟩
  rcases s with s | s
  ·exact .inl ⟨s,fun l hl=>k _ _ (bG hl) ⟨l,xs,rfl,kq.of bO,z.same (bG hl)⟩⟩
  ·exact .inr ⟨s,k _ H (bT.refl _) ⟨q,xs,rfl,s,z⟩⟩) (he:=he)
theorem aw.min(hc:X.calm=true)(hg:Gl X "min")(hm:X.mg "min"=none)(hv:dE "min"=some (.builtin "min")){i j:Int}(ha:aw X ρ a (.int i))(hb:aw X ρ b (.int j))
  (he:au [a,b] X.env=(false,eval a X.env)::au [b] X.env:=by rfl)(he2:au [b] X.env= [(false,eval b X.env)]:=by rfl)(hpl:(eQ pos (au [b] X.env)).any (·.1)=false:=by rfl):aw X ρ (.Call (.Name "min" p) [a,b] [] pos) (.int (if j < i then j else i)):=
 aw.callB (Dm hc) hg hm hv (vM.cons ha.r (vM.one hb.r he2) he) (fun M H vs Q dn k=>by
  obtain⟨v,r,rfl,e1,v2,r2,rfl,e2,e3⟩:=dn
  cases e1; cases e2; cases e3
  exact⟨i,j,rfl,k _ H (bT.refl _) rfl⟩) (he:=he) (hpl:=hpl)
mutual
def D.pd:D->PyData
 | .non=> .none
 | .bl b=> .bool b
 | .int i=> .int i
 | .str x=> .str x
 | .tup ds=> .tuple (D.pds ds)
 | .lst ds=> .list (D.pds ds)
 | .ins _ _ _=> .none
 | .exc _=> .none
 | .dct _ _=> .none
def D.pds:List D->List PyData
 | []=> []
 | d::ds=>D.pd d::D.pds ds
end
def D.flat:Nat->D->Prop
 | _, .non=>True
 | _, .bl _=>True
 | _, .int _=>True
 | _, .str x=>PyData.strOk x=true
 | n+1, .tup ds=> ∀d∈ds,D.flat n d
 | n+1, .lst ds=> ∀d∈ds,D.flat n d
 | _,_=>False
theorem kx{pins:List (Addr×Obj)}{s:ai}{σ:St}{H:Hp}{M:MP}(I:Inv X pins σ H s): ∀(n:Nat),
  (∀(d:D) (v:V) (u:Value),D.flat n d->qM X.K M H d v->RelV v u-> ∃as,Reads s.heap u d.pd as):=by
 intro n
 have all: ∀m:Nat,(∀(d:D) (v:V) (u:Value),D.flat m d->qM X.K M H d v->RelV v u-> ∃as,Reads s.heap u d.pd as)->
   ∀(ds:List D) (vs:List V) (us:List Value),(∀d∈ds,D.flat m d)->cN X.K M H ds vs->Vals vs us-> ∃as,ReadsAll s.heap us (D.pds ds) as:=by
  intro m ih ds
  induction ds with
  | nil=>intro vs us _ h r; cases (show vs= []from h); cases r; exact⟨_, .nil⟩
  | cons d ds hi=>
   intro vs us hf h r
   obtain⟨v,t,rfl,h1,h2⟩:=h
   cases r with
   | cons r1 r2=>
    obtain⟨as,q1⟩:=ih d v _ (hf d (.head _)) h1.t r1
    obtain⟨bs,q2⟩:=hi t _ (fun x hx=>hf x (.tail _ hx)) h2 r2
    exact⟨_, .cons q1 q2⟩
 have base: ∀(m:Nat) (d:D) (v:V) (u:Value),(∀ds,d≠ .tup ds)->(∀ds,d≠ .lst ds)->D.flat m d->qM X.K M H d v->RelV v u-> ∃as,Reads s.heap u d.pd as:=by
  intro m d v u n1 n2 hf h r
  cases d with
  | non=>cases (show v= .non from h); cases (show u=aR from r); exact⟨_, .none⟩
  | bl b=>cases (show v= .bl b from h); cases (show u=fS b from r); exact⟨_, .bool b⟩
  | int i=>cases (show v= .int i from h); obtain⟨t,rfl⟩:=r; exact⟨_, .int i t⟩
  | str x=>cases (show v= .str x from h); obtain⟨t,rfl⟩:=r; exact⟨_, .str x t⟩
  | tup ds=>exact absurd rfl (n1 ds)
  | lst ds=>exact absurd rfl (n2 ds)
  | ins _ _ _=>cases m <;> exact hf.elim
  | exc _=>cases m <;> exact hf.elim
  | dct _ _=>cases m <;> exact hf.elim
 induction n with
 | zero=>
  intro d v u hf h r
  refine base 0 d v u (fun ds e=> ?_) (fun ds e=> ?_) hf h r <;> (subst e; exact hf.elim)
 | succ n ih=>
  intro d v u hf h r
  cases d with
  | tup ds=>
   obtain⟨a,xs,rfl,sq,dn⟩:=h
   cases (show u=ak a from r)
   obtain⟨its,rv,⟨o,e1,e2,m,e3⟩,_⟩:=I.tuple sq
   obtain⟨as,q⟩:=all n ih ds xs its hf dn rv
   exact⟨_, .tuple e1 e2 e3 (by simpa [D.pds]using q)⟩
  | lst ds=>
   obtain⟨a,xs,rfl,sq,dn⟩:=h
   cases (show u=ak a from r)
   obtain⟨its,rv,⟨o,m,e1,e2,_,e3⟩,_⟩:=I.list sq
   obtain⟨as,q⟩:=all n ih ds xs its hf dn rv
   exact⟨_, .list e1 e2 e3 (by simpa [D.pds]using q)⟩
  | _=>exact base (n+1) _ v u (fun ds e=>nomatch e) (fun ds e=>nomatch e) hf h r
theorem mz: ∀(n:Nat) (d:D),D.flat n d->d.pd.canLay0=true/\d.pd.depth<=n:=by
 have all: ∀m:Nat,(∀d:D,D.flat m d->d.pd.canLay0=true/\d.pd.depth<=m)-> ∀ds:List D,(∀d∈ds,D.flat m d)->eW (D.pds ds)=true/\eB (D.pds ds)<=m:=by
  intro m ih ds
  induction ds with
  | nil=>intro _; exact⟨by simp [D.pds,eW],by simp [D.pds,eB]⟩
  | cons d ds hi=>
   intro hf
   obtain⟨a1,a2⟩:=ih d (hf d (.head _))
   obtain⟨b1,b2⟩:=hi fun x hx=>hf x (.tail _ hx)
   exact⟨by simp [D.pds,eW,a1,b1],by simp only [D.pds,eB]; omega⟩
 intro n
 induction n with
 | zero=>intro d hf; cases d <;> simp_all [D.flat,D.pd,jD,kW]
 | succ n ih=>
  intro d hf
  cases d with
  | tup ds=>obtain⟨b1,b2⟩:=all n ih ds hf; exact⟨by simpa [D.pd,jD]using b1,by simp only [D.pd,kW]; omega⟩
  | lst ds=>obtain⟨b1,b2⟩:=all n ih ds hf; exact⟨by simpa [D.pd,jD]using b1,by simp only [D.pd,kW]; omega⟩
  | _=>simp_all [D.flat,D.pd,jD,kW]
theorem lg{d:D}(h:D.flat 60 d):SeqAt.shaped d.pd=true:=by
 obtain⟨a,b⟩:=mz 60 d h
 unfold SeqAt.shaped
 rw [a,iU]
 exact decide_eq_true (by omega)
def D.eqv(a b:D):Bool:=jg a.pd b.pd
def Nr(K:Frag)(neg:Bool):R2:=fun x y H Q=> ∃M da db,qM K M H da x/\qM K M H db y/\D.flat 60 da/\D.flat 60 db/\Q (.bl (if neg then !D.eqv da db else D.eqv da db)) H
theorem LK(hu:X.A.units+64 < cLine):pA X (cP .Eq) (Nr X.K false):=by
 intro pins s σ H x y v u Q I rx ry ⟨M,da,db,h1,h2,f1,f2,q⟩
 obtain⟨as,r1⟩:=kx I 60 da x v f1 h1 rx
 obtain⟨bs,r2⟩:=kx I 60 db y u f2 h2 ry
 exact eq_dataH r1 r2 (lg f1) (lg f2) hu ⟨.bl _,H,I,rfl,q⟩
theorem LN(hu:X.A.units+64 < cLine):pA X (cP .NotEq) (Nr X.K true):=by
 intro pins s σ H x y v u Q I rx ry ⟨M,da,db,h1,h2,f1,f2,q⟩
 obtain⟨as,r1⟩:=kx I 60 da x v f1 h1 rx
 obtain⟨bs,r2⟩:=kx I 60 db y u f2 h2 ry
 exact ne_dataH r1 r2 (lg f1) (lg f2) hu ⟨.bl _,H,I,rfl,q⟩
theorem aw.eq{da db:D}(hu:X.A.units+64 < cLine)(ha:mZ X ρ a da)(hb:mZ X ρ b db)(f1:D.flat 60 da)(f2:D.flat 60 db):aw X ρ (.Compare a [.Eq] [b] pos) (.bl (D.eqv da db)):=
 aw.cmp (LK hu) ha hb (xY b) fun M H x y Q dx dy k=>⟨M,da,db,dx,dy,f1,f2,k⟩
theorem cU.ne{da db:D}(hu:X.A.units+64 < cLine)(ha:mZ X ρ a da)(hb:mZ X ρ b db)(f1:D.flat 60 da)(f2:D.flat 60 db):cU X ρ (.Compare a [.NotEq] [b] pos) (!D.eqv da db):=
 cU.cmp (LN hu) ha hb (xY b) fun M H x y Q dx dy k=>⟨M,da,db,dx,dy,f1,f2,k⟩
def inD(d:D)(ds:List D):Bool:=ds.any fun y=>D.eqv y d
def OC(K:Frag)(neg:Bool):R2:=fun x y H Q=> ∃M da ds,qM K M H da x/\(qM K M H (.lst ds) y\/qM K M H (.tup ds) y)/\D.flat 60 da/\(∀d∈ds,D.flat 59 d)/\Q (.bl (if neg then !inD da ds else inD da ds)) H
theorem yd(d:D): ∀ds:List D,(D.pds ds).any (fun y=>jg y d.pd)=inD d ds
 | []=>rfl
 | y::ds=>by
  show(jg y.pd d.pd || (D.pds ds).any _)=(D.eqv y d || inD d ds)
  rw [yd d ds]
  rfl
theorem GG(hu:X.A.units+65 < cLine):pA X (cP .In) (OC X.K false):=by
 intro pins s σ H x y v u Q I rx ry ⟨M,da,ds,h1,h2,f1,f2,q⟩
 obtain⟨as,r1⟩:=kx I 60 da x v f1 h1 rx
 obtain⟨c1,c2⟩:=mz 60 da f1
 rcases h2 with h2 | h2
 ·obtain⟨bs,r2⟩:=kx I 60 (.lst ds) y u f2 h2 ry
  obtain⟨e1,e2⟩:=mz 60 (.lst ds) f2
  exact SeqAt.in_list_reads r2 r1 e1 c1 (by have:=vE (eB (D.pds ds)) da.pd.depth; omega) (by rw [yd]; exact⟨.bl _,H,I,rfl,q⟩)
 ·obtain⟨bs,r2⟩:=kx I 60 (.tup ds) y u f2 h2 ry
  obtain⟨e1,e2⟩:=mz 60 (.tup ds) f2
  exact SeqAt.in_tuple_reads r2 r1 e1 c1 (by have:=vE (eB (D.pds ds)) da.pd.depth; omega) (by rw [yd]; exact⟨.bl _,H,I,rfl,q⟩)
theorem aw.inL{da:D}(hu:X.A.units+65 < cLine)(ha:mZ X ρ a da)(hb:mZ X ρ b (.lst ds))(f1:D.flat 60 da)(f2: ∀d∈ds,D.flat 59 d)(hm:fU .In b=false:=by with_unfolding_all rfl):aw X ρ (.Compare a [.In] [b] pos) (.bl (inD da ds)):=
 aw.cmp (GG hu) ha hb hm fun M H x y Q dx dy k=>⟨M,da,ds,dx, .inl dy,f1,f2,k⟩
theorem cU.inL{da:D}(hu:X.A.units+65 < cLine)(ha:mZ X ρ a da)(hb:mZ X ρ b (.lst ds))(f1:D.flat 60 da)(f2: ∀d∈ds,D.flat 59 d)(hm:fU .In b=false:=by with_unfolding_all rfl):cU X ρ (.Compare a [.In] [b] pos) (inD da ds):=
 cU.cmp (GG hu) ha hb hm fun M H x y Q dx dy k=>⟨M,da,ds,dx, .inl dy,f1,f2,k⟩
def D.isNon:D->Bool
 | .non=>true
 | _=>false
theorem FG{K:Frag}{M:MP}{H:Hp}{d:D}{v:V}(h:qM K M H d v):decide (v= .non)=d.isNon:=by
 cases d with
 | non=>cases (show v= .non from h); rfl
 | bl b=>cases (show v= .bl b from h); rfl
 | int b=>cases (show v= .int b from h); rfl
 | str b=>cases (show v= .str b from h); rfl
 | tup ds=>obtain⟨a,_,rfl,_⟩:=h; rfl
 | lst ds=>obtain⟨a,_,rfl,_⟩:=h; rfl
 | ins _ _ _=>obtain⟨a,_,_,rfl,_⟩:=h; rfl
 | exc _=>obtain⟨a,rfl,_⟩:=h; rfl
 | dct _ _=>obtain⟨a,_,rfl,_⟩:=h; rfl
theorem cU.notN{da:D}{j p'}(ha:mZ X ρ a da):cU X ρ (.Compare a [.IsNot] [.Constant .none j p'] pos) (!da.isNon):=
 cU.cmp J4 ha aw.non.r (xY _) fun M H x y Q dx dy k=>⟨dy,by rw [FG dx]; exact k⟩
def NC(K:Frag):R2:=fun x y H Q=> ∃l b xs zs,x= .ref l/\y= .ref b/\pU K H l xs/\pU K H b zs/\xs.length+zs.length<=sizeLine/\ ∀p,H p=none->Q (.ref p) (upd H p (.lst (xs ++ zs)))
theorem C1(l b:Addr)(xs ys:Array Value)(n m:Nat)(dd de:Option Addr)(sl tl:Array (Option Value))(h0:xs.size+ys.size<=sizeLine):
  Meets (dF.«list.__add__» ⟨[.ref l, .ref b], []⟩) (fun _ R s=>s.heap.get? l=some {cls:= .type "list",dict:=dd,data:= .seq xs n,slots:=sl}/\s.heap.get? b=some {cls:= .type "list",dict:=de,data:= .seq ys m,slots:=tl}/\
   R (.ok (.ret (ak s.heap.objs.size))) {s with heap:=s.heap.push {cls:=cR "list",data:=yz (xs ++ ys)},toks:=s.toks}):=
 .of_wp fun prog w A R s h=>by
  obtain⟨hp,g,d,tk,os⟩:=s
  obtain⟨hl,hb,h⟩:=h
  have f3:=BG
  wp_walk using cC hl,cC hb
  exact⟨_,rfl,h⟩
end
def Walk(K:Frag)(J:It)(ds:List D)(gs:List (D×V)):Prop:= ∀(M:MP) (H:Hp),(∀p∈gs,Dn K M H p.1 p.2)->
 (∀i d,ds[i]? =some d->J.go i H/\ ∀x H',J.ON i H x H'->bT H H'/\Dn K M H' d x)/\J.stop ds.length H
def tI(X:Cx)(tg iter:Expr):TI:=fun σ H R=> ∀(pins:List (Addr×Obj)) (s:ai),Inv X pins σ H s->
 wpAny (model X.prog X.w) X.A (eval iter X.env) (fun v s1=>wpAny (model X.prog X.w) X.A (vD v) (OW X pins σ tg R) X.xe s1) X.xe s
def lE(X:Cx)(ρ:fm)(tg iter:Expr)(ds:List D):Prop:= ∀(M0:MP) (H0:Hp) (γ:List (D×V)) (α:Nat->Addr) (σ:St) (H:Hp) (R:It->Hp->Prop),Rep X.K M0 H0 γ α ρ σ H->
 (∀J H1 gs,bT H H1->(∀p∈gs,Dn X.K (MM M0 ρ α) H1 p.1 p.2)->Walk X.K J ds gs->R J H1)->tI X tg iter σ H R
section
variable {X:Cx}{M0:MP}{H0:Hp}{ρ:fm}{P:qD}{e a b c tg iter:Expr}{es:List Expr}{d:D}{ds:List D}{pos p:Pos}{σ:St}{H:Hp}
theorem U5:PI X tg iter (tI X tg iter):=fun pins s σ H R I h=>h pins s I
theorem _root_.L2.PI.to{t:TI}{R:It->Hp->Prop}(h:PI X tg iter t)(q:t σ H R):tI X tg iter σ H R:=fun pins s I=>h pins s σ H R I q
theorem lE.list(h:aw X ρ e (.lst ds)):lE X ρ tg e ds:=fun M0 H0 γ α σ H R r k=>(Cg iu).to (h M0 H0 γ α σ H _ r fun v H1 s x=>by
 obtain⟨q,xs,rfl,sq,dn⟩:=id x
 refine⟨q,rfl,⟨xs,sq.l⟩,k (OQ X.K q) H1 [(.lst ds, .ref q)] s (fun p hp=>by rw [aN.mp hp]; exact x) fun M H2 hg=> ?_⟩
 obtain⟨q',xs',e1,sq',dn'⟩:=hg _ (aN.mpr rfl)
 cases e1
 refine⟨fun i d hi=>⟨?_,fun x H' hy=> ?_⟩,⟨xs',sq'.l,by rw [dn'.len]; exact ay _⟩⟩
 ·obtain⟨v,h1,h2⟩:=dn'.get hi
  exact⟨xs',v,sq'.l,h1⟩
 ·obtain⟨rfl,hy⟩:=hy
  obtain⟨d',h1,h2⟩:=dn'.getV (hy xs' sq'.l)
  rw [hi]at h1; cases h1
  exact⟨bT.refl _,h2⟩)
theorem lE.tup(h:aw X ρ e (.tup ds)):lE X ρ tg e ds:=fun M0 H0 γ α σ H R r k=>(Mn iu).to (h M0 H0 γ α σ H _ r fun v H1 s x=>by
 obtain⟨q,xs,rfl,sq,dn⟩:=id x
 refine⟨q,rfl,⟨xs,sq⟩,k (OB X.K q) H1 [(.tup ds, .ref q)] s (fun p hp=>by rw [aN.mp hp]; exact x) fun M H2 hg=> ?_⟩
 obtain⟨q',xs',e1,sq',dn'⟩:=hg _ (aN.mpr rfl)
 cases e1
 refine⟨fun i d hi=>⟨?_,fun x H' hy=> ?_⟩,⟨xs',sq',by rw [dn'.len]; exact ay _⟩⟩
 ·obtain⟨v,h1,h2⟩:=dn'.get hi
  exact⟨xs',v,sq',h1⟩
 ·obtain⟨rfl,hy⟩:=hy
  obtain⟨d',h1,h2⟩:=dn'.getV (hy xs' sq')
  rw [hi]at h1; cases h1
  exact⟨bT.refl _,h2⟩)
def lF(lo:Int)(n:Nat):List D:=(bH n).map fun(i:Nat)=>D.int (lo+(i:Int))
theorem zX{K:Frag}(lo:Int)(n:Nat):Walk K (Na lo n) (lF lo n) []:=fun M H _=>by
 refine⟨fun i d hi=> ?_, ?_⟩
 ·unfold lF at hi
  rw [aA]at hi
  cases e:(bH n)[i]? with
  | none=>rw [e]at hi; cases hi
  | some j=>
   rw [e]at hi
   obtain⟨h1,h2⟩:=aI.mp e
   rw [cg]at h1
   rw [IL]at h2
   subst h2
   cases hi
   exact⟨h1,fun x H' ⟨e1,e2⟩=>⟨by rw [e1]; exact bT.refl _,e2⟩⟩
 ·show n<=_
  unfold lF
  rw [ae,cg]
  exact ay _
theorem lE.range{j:Int}{p1 p2:Pos}(hg:Gl X "range")(hm:X.mg "range"=none)(hs:aw X ρ e (.int j))(hj: -(2 ^ 62)<=j/\j < 2 ^ 62)(hss:au [e] X.env= [(false,eval e X.env)]:=by rfl):
  lE X ρ tg (.Call (.Name "range" p1) [e] [] p2) (lF 0 j.toNat):=fun M0 H0 γ α σ H R r k=>(DF hg hm xE hss).to ((aY.cons hs aY.nil hss) M0 H0 γ α σ H _ r fun vs H1 s x=>by
 obtain⟨v,r,rfl,e1,e2⟩:=x
 cases e1; cases e2
 exact⟨j,rfl,hj.1,hj.2,k _ H1 [] s (fun _ hp=>nomatch hp) (zX 0 _)⟩)
theorem lE.range2{i j:Int}{p1 p2:Pos}(hg:Gl X "range")(hm:X.mg "range"=none)(ha:aw X ρ a (.int i))(hs:aw X ρ e (.int j))(hj: -(2 ^ 62)<=i/\i < 2 ^ 62/\ -(2 ^ 62)<=j/\j < 2 ^ 62)
  (hss:au [a,e] X.env= [(false,eval a X.env),(false,eval e X.env)]:=by rfl)(hs2:au [e] X.env= [(false,eval e X.env)]:=by rfl):
  lE X ρ tg (.Call (.Name "range" p1) [a,e] [] p2) (lF i (j - i).toNat):=fun M0 H0 γ α σ H R r k=>(DA hg hm xE hss hs2).to ((aY.cons ha (aY.cons hs aY.nil hs2) (by rw [hss,hs2])) M0 H0 γ α σ H _ r fun vs H1 s x=>by
 obtain⟨v,r,rfl,e1,v2,r2,rfl,e2,e3⟩:=x
 cases e1; cases e2; cases e3
 exact⟨i,j,rfl,hj,k _ H1 [] s (fun _ hp=>nomatch hp) (zX i _)⟩)
theorem Rep.ghosts{K:Frag}{γ:List (D×V)}{α:Nat->Addr}: ∀{gs:List (D×V)},Rep K M0 H0 γ α ρ σ H->(∀p∈gs,Dn K (MM M0 ρ α) H p.1 p.2)->Rep K M0 H0 (gs ++ γ) α ρ σ H:=fun{gs} r h=>
 ⟨r.same,r.old,r.inj,r.im,r.mu,fun p hp=>(bP.mp hp).elim (h p) (r.gh p),r.len⟩
theorem Rep.unghosts{K:Frag}{gs γ:List (D×V)}{α:Nat->Addr}(r:Rep K M0 H0 (gs ++ γ) α ρ σ H):Rep K M0 H0 γ α ρ σ H:=
 ⟨r.same,r.old,r.inj,r.im,r.mu,fun q hq=>r.gh q (ba _ hq),r.len⟩
theorem W1.for{body:List Stmt}(I:Nat->fm->Prop)(hp:vC (model X.prog X.w) X.A X.env X.xe)(hc:X.calm=true)(hs:lE X ρ tg e ds)(h0:I 0 ρ)
  (ht: ∀i d ρ,ds[i]? =some d->I i ρ-> ∃ρ',Cd X tg d ρ ρ'/\WS X M0 H0 body ρ' {P with N:=I (i+1),C:=I (i+1),B:=P.N})(hd: ∀ρ,I ds.length ρ->P.N ρ)
  (hf: ∀x,jz e X.env x=pure x:=by intro _; rfl):W1 X M0 H0 (.For tg e body [] pos) ρ P:=fun γ α σ H R=>by
 refine(GJ hp hc U5 Us f_ hf).to (hs M0 H0 γ α σ H _ R fun J H1 gs s hg w=> ?_)
 refine⟨fun i m σ H=>m=ds.length - i/\i<=ds.length/\ ∃α ρ,Rep X.K M0 H0 (gs ++ γ) α ρ σ H/\I i ρ,⟨ds.length,by simp,bN _,α,ρ,(R.next s).ghosts hg,h0⟩, ?_⟩
 rintro i m σ2 H2 ⟨rfl,hi,α2,ρ2,R2,i2⟩
 obtain⟨w1,w2⟩:=w (MM M0 ρ2 α2) H2 fun p hp=>R2.gh p (dO _ hp)
 by_cases hlt:i < ds.length
 ·obtain⟨g1,g2⟩:=w1 i ds[i] (ah hlt)
  refine .inr ⟨g1,fun σ' H'=> ∃α ρ,Rep X.K M0 H0 (gs ++ γ) α ρ σ' H'/\I (i+1) ρ,fun σ' H' ⟨α',ρ',R',i'⟩=>⟨ds.length - (i+1),by omega,rfl,hlt,α',ρ',R',i'⟩,fun y H' hy=> ?_⟩
  obtain⟨s2,dd⟩:=g2 y H' hy
  obtain⟨ρ3,g,wb⟩:=ht i _ ρ2 (ah hlt) i2
  exact g M0 H0 _ α2 σ2 _ y _ (R2.next s2) dd fun σ' R3=>FJ Rep.unghosts R3 wb
 ·have e:i=ds.length:=by omega
  subst e
  exact .inl ⟨w2,α2,ρ2,R2.unghosts,hd _ i2⟩
end
def jU(X:Cx)(N':List Str)(scope:Scope)(cl:List (Str×Addr))(C:Addr)(s₀:ai)(H₀:Hp)(fp:List Addr)(pins:List (Addr×Obj)):Cx:=
 {X with N:=N',s₀:=s₀,H₀:=H₀,env:=compEnvC scope cl C X.env,outer:=X.stack,stack:=X.stack,ex:=fp,fn:=fun _=>false,pn:=X.pn ++ pins,xe:=fun _ _=>False}
structure eY(X:Cx)(N':List Str)(js:List Nat)(scope:Scope)(x:Str)(cl:List (Str×Addr)):Prop where
 Di:yB scope X.env=pure cl
 cell: ∀y∈scope.names,y.2≠ .cell
 kind:scope.kind= .function
 names: ∀y∈scope.names,y.2= .local->scope.names.lookup y.1=some .local
 own:scope.names.lookup x=some .local
 hN: ∃r,N'=x::r/\r.length=js.length/\ ∀(i:Nat) (y:Str) (j:Nat),r[i]? =some y->js[i]? =some j->X.N[j]? =some y/\X.env.scope.names.lookup y=some .cell/\(qx scope X.env).names.lookup y=some .cell/\ ∀c,X.env.cells.lookup y=some c->cl.lookup y=some c
 sub: ∀y c,cl.lookup y=some c->X.env.cells.lookup y=some c
 has: ∀y,((qx scope X.env).names.lookup y=some .cell\/(qx scope X.env).names.lookup y=some .free)-> ∃c,cl.lookup y=some c
section
variable {X:Cx}{pins:List (Addr×Obj)}{σ:St}{H H':Hp}{s:ai}{N':List Str}{js:List Nat}{scope:Scope}{x:Str}{cl:List (Str×Addr)}{px pos:Pos}{elt iter:Expr}
theorem tK(I:Inv X pins σ H s){b:Addr}(h1:b≠X.env.locals)(h2:b∉X.fs):b∉uW X.stack:=fun z=>by
 rcases aO.mp (I.stkSub b z)with e | e
 ·exact h1 e
 ·exact h2 e
theorem eY.cx(ok:eY X N' js scope x cl)(I:Inv X pins σ H s){fp:List Addr}(hf: ∀b∈fp,kc X pins H b)(ho: ∀b∈fp,b < s.heap.objs.size):
  (jU X N' scope cl s.heap.objs.size s H fp pins).Ok where
 mod:=I.ok.mod
 kind:=ok.kind
 glob:=I.ok.glob
 blt:=I.ok.blt
 above:=ay _
 inj:=fun y z c h1 h2=>I.ok.inj y z c (ok.sub y c h1) (ok.sub z c h2)
 has:=fun y h=>ok.has y h
 Fb:=fun y c h _=>absurd (show false=true from h) aF
 hd:=I.ok.hd
 frames:=I.ok.frames
 sF:= .inl rfl
 J7:=fun b hb=>⟨aJ (ho b hb),fun y c e=>(hf b hb).2.2.2.2.1 y c (ok.sub y c e)⟩
 bs:=I.bs
 yH:=bE I.ok.yH I.sz
 rM:=fun b o e hb=>by
  rcases(hf b hb).2.2.2.1 with z | z
  ·exact I.ok.rM b o e z
  ·exact absurd (bf (av e) (bE I.ok.yH z)) (dz _)
 uw:=fun b hb=>tK I (hf b hb).2.1 (hf b hb).2.2.1
 mr:=I.stack
 AY:=I.stkFree
def Mj(σ:St)(js:List Nat):St:=none::js.map fun j=>(σ[j]?).join
theorem eY.inv(ok:eY X N' js scope x cl)(I:Inv X pins σ H s){fp:List Addr}(hf: ∀b∈fp,kc X pins H b)(ho: ∀b∈fp,b < s.heap.objs.size){h₁:Heap}{tk:Nat}{m:Str->Option Value}
  (hn:h₁.Ns s.heap.objs.size m)(k: ∀b o,s.heap.get? b=some o->h₁.get? b=some o):Inv (jU X N' scope cl s.heap.objs.size s H fp pins) [] (Mj σ js) H {s with heap:=h₁,toks:=tk}:=by
 obtain⟨r,rfl,hrl,hr⟩:=ok.hN
 refine⟨ok.cx I hf ho,rfl,I.bare,Un.kept k,⟨m,hn,fun i y v h1 h2 _=> ?_⟩,fun y c e=> ?_,I.eI.fresh (ay _),fun y c e=>I.i0 y c (ok.sub y c e),fun p hp=> ?_,I.eI.kept k, ?_⟩
 ·cases i with
  | zero=>have h2':(none:Option V)=some v:=aH h2; cases h2'
  | succ i=>
   have h1':r[i]? =some y:=h1
   have h2':(js.map fun j=>(σ[j]?).join)[i]? =some (some v):=h2
   rw [aA]at h2'
   cases ej:js[i]? with
   | none=>rw [ej]at h2'; cases h2'
   | some j=>
    rw [ej]at h2'
    have h3:(σ[j]?).join=some v:=aH h2'
    have h4:σ[j]? =some (some v):=by
     cases e:σ[j]? with
     | none=>rw [e]at h3; cases h3
     | some w=>rw [e]at h3; exact congrArg some h3
    obtain⟨q1,q2,q3,q4⟩:=hr i y j h1' ej
    obtain⟨m0,_,hl⟩:=I.loc
    obtain⟨u,ru,lk⟩:=hl j y v q1 h4 (.inr (.inl q2))
    refine⟨u,ru, ?_⟩
    rcases lk with⟨z,_⟩ | ⟨_,c,e1,o,e2,e3⟩
    ·have z':X.env.scope.names.lookup y=some .local:=z
     rw [q2]at z'; cases z'
    ·exact .inr ⟨.inl q3,c,q4 c e1,o,k _ _ e2,e3⟩
 ·obtain⟨v,o,e1,e2⟩:=I.cell y c (ok.sub y c e)
  exact⟨v,o,k _ _ e1,e2⟩
 ·have hp':p∈X.pn ++ pins:=by
   have z:p∈(X.pn ++ pins) ++ []:=hp
   rwa [bq]at z
  obtain⟨e,n,ne,nf,d⟩:=I.pin p hp'
  exact⟨k _ _ e,n,aJ (av e),tK I ne nf,d⟩
 ·show(none::js.map fun j=>(σ[j]?).join).length=(x::r).length
  rw [aL,ae,aL,hrl]
theorem eY.out(ok:eY X N' js scope x cl)(I:Inv X pins σ H s){fp:List Addr}(hf: ∀b∈fp,kc X pins H b){σ':St}{s':ai}(J:Inv (jU X N' scope cl s.heap.objs.size s H fp pins) [] σ' H' s'):
  Inv X pins σ H' s'/\kc X pins H' s.heap.objs.size:=by
 have I':Inv X pins σ H' s':=I.call' (ch:=fp) J.os J.base J.eI J.bare fun b hb=>⟨(hf b hb).2.2.2.1,(hf b hb).2.1,(hf b hb).2.2.2.2.1,(hf b hb).2.2.2.2.2⟩
 exact⟨I',I.fpOk (ay _) J.free⟩
end
section
variable {prog:aq}{w:World}{A:bA}{R:Result->ai->Prop}{s:ai}
abbrev zH:Value->ai->Prop:=fun _ _=>False
theorem CY{elt target iter:Expr}{scope:Scope}{pos:Pos}{it acc:Value}{env:Env}(I:Nat->ai->Prop)
  (turn: ∀n s,I n s->wpAny (model prog w) A (je it) (fun r s₁=>match r with
   | none=>R (.ok .next) s₁
   | some v=>wpAny (model prog w) A (o9 target it v) (fun _ s₂=>wpAny (model prog w) A (qp target env v) (fun _ s₃=>wpAny (model prog w) A (eval elt env) (fun y s₄=>
     wpAny (model prog w) A (call (.builtin "list.append") [acc,y]) (fun _ s₅=> ∃m,m < n/\I m s₅) zH s₄) zH s₃) zH s₂) zH s₁) zH s)(n:Nat)(h:I n s):
  fK (model prog w) A (.compLoop (.ListComp elt [⟨target,iter, [],0⟩] scope pos) 0 it acc env) R s:=by
 refine codeAny_loop rfl I (fun n s hI=> ?_) n h
 show wpAny _ A ((compTurn (.ListComp elt [⟨target,iter, [],0⟩] scope pos) 0 it acc env).onRaise (fun x=>do vG x env; theTreesLotGoes x)) _ _ s
 refine wpAny_noted ?_
 rw [compTurn_list]
 refine aa (rd (aa (bW (turn n s hI) (fun r s₁ h₁=> ?_) fun _ _ z=>z.elim)))
 cases r with
 | none=>exact af h₁
 | some v=>
  refine aa (bW h₁ (fun _ s₂ h₂=> ?_) fun _ _ z=>z.elim)
  refine aa (bW h₂ (fun _ s₃ h₃=>aa (af ?_)) fun _ _ z=>z.elim)
  exact aa (aa (bW h₃ (fun y s₄ h₄=>aa (bW h₄ (fun _ s₅ h₅=>af (af ⟨rfl,h₅⟩)) fun _ _ z=>z.elim)) fun _ _ z=>z.elim))
end
structure OU(K:Frag)(M:MP)(H1:Hp)(es:List D)(i:Nat)(D0:Addr)(ys:List V)(H:Hp):Prop where
 same:bT H1 H
 at_:H D0=some (.lst ys)
 dn:cN K (fun a=>M a\/a=D0) H (es.take i) ys
section
variable {X:Cx}{pins:List (Addr×Obj)}{σ:St}{H1:Hp}{s₂:ai}{N':List Str}{js:List Nat}{scope:Scope}{x:Str}{cl:List (Str×Addr)}{px pos:Pos}{elt iter:Expr}{J:It}{fp:List Addr}{it:Addr}{tn:Nat->Heap->Prop}
 {ds es cs:List D}{gs:List (D×V)}{M:MP}{E:Value->ai->Prop}{RR:Value->Addr->Result->ai->Prop}
def kR(d:D)(cs:List D):fm:= .im d::cs.map .im
def GO(K:Frag)(M:MP)(H:Hp)(σ:St)(js:List Nat)(cs:List D):Prop:=js.length=cs.length/\ ∀(k j:Nat) (c:D),js[k]? =some j->cs[k]? =some c-> ∃v,σ[j]? =some (some v)/\Dn K M H c v
theorem uC(ok:eY X N' js scope x cl)(hc:X.calm=true)(hnd:N'.Nodup)(I:Inv X pins σ H1 s₂)(T:Turn X.prog X.w X.K (.Name x px) J fp it tn)(st:tn 0 s₂.heap)(hf: ∀b∈fp,kc X pins H1 b)
  (hg: ∀p∈gs,Dn X.K M H1 p.1 p.2)(w:Walk X.K J ds gs)(hl:es.length=ds.length)(hsz:ds.length<=1000000)(hcap:GO X.K M H1 σ js cs)(hM: ∀a,M a->H1 a≠none)
  (helt: ∀(C:Addr) (s₀:ai) (H₀:Hp) (i:Nat) (d e:D),ds[i]? =some d->es[i]? =some e->aw (jU X N' scope cl C s₀ H₀ fp pins) (kR d cs) elt e)
  (hRR: ∀(D0 C:Addr) (m:Str->Option Value) (s1:ai) (H:Hp) (ys:List V),Inv X pins σ H s1->s1.heap.Ns C m->kc X pins H C->H1 D0=none->bT H1 H->H D0=some (.lst ys)->cN X.K (fun a=>M a\/a=D0) H es ys->RR (.ref D0) C (.ok .next) s1):
  wpAny (model X.prog X.w) X.A (newList []) (fun acc s₃=>wpAny (model X.prog X.w) X.A (newFunctionEnv scope X.env.globals cl [] X.env.qual none .none (some X.env)) (fun cenv s₄=>
   fK (model X.prog X.w) X.A (.compStart (.ListComp elt [⟨.Name x px,iter, [],0⟩] scope pos) 0 (.ref it) acc {cenv with scope:=qx scope X.env}) (RR acc cenv.locals) s₄) E s₃) E s₂:=by
 refine bw (wpAny_newFunctionEnv ok.cell (by intro y hy; simp at hy) (fun h₁ hns₁ hsb₁=> ?_) ok.kind)
 dsimp only at hns₁ hsb₁ ⊢
 have hD:H1 s₂.heap.objs.size=none:=I.fresh
 have I3:Inv X pins σ (upd H1 s₂.heap.objs.size (.lst [])) {s₂ with heap:=s₂.heap.push {cls:= .type "list",data:= .seq ([]:List Value).toArray}}:=I.lnew (its:= []) (t':=s₂.toks) (ys:= []) .nil (bN _)
 have obj2: ∀b∈fp, ∃o,s₂.heap.get? b=some o:=fun b hb=>let⟨o,e,_⟩:=T.obj _ _ st b hb; ⟨o,e⟩
 have lt2: ∀b∈fp,b < s₂.heap.objs.size:=fun b hb=>let⟨o,e⟩:=obj2 b hb; av e
 have hf3: ∀b∈fp,kc X pins (upd H1 s₂.heap.objs.size (.lst [])) b:=fun b hb=>⟨by rw [cD (aJ (lt2 b hb))]; exact(hf b hb).1,(hf b hb).2⟩
 generalize hH2:s₂.heap.push {cls:= .type "list",data:= .seq ([]:List Value).toArray}=H2 at I3 hns₁ hsb₁ ⊢
 have sz3:H2.objs.size=s₂.heap.objs.size+1:=by rw [<-hH2,cO]
 have lt3: ∀b∈fp,b < H2.objs.size:=fun b hb=>by rw [sz3]; exact cH (lt2 b hb)
 have k1: ∀b o,H2.get? b=some o->h₁.get? b=some o:=fun b o e=>hsb₁.extBut b o (aJ (av e)) (ag _ e)
 have k2: ∀b o,s₂.heap.get? b=some o->h₁.get? b=some o:=fun b o e=>k1 b o (by rw [<-hH2]; exact ag _ e)
 have I4:=ok.inv (tk:=s₂.toks+([]:List (Str×Value)).length) I3 hf3 lt3 hns₁ k1
 have st4:tn 0 h₁:=T.keep _ _ _ st fun b hb o e=>k2 b o e
 generalize hX:jU X N' scope cl H2.objs.size {s₂ with heap:=H2} (upd H1 s₂.heap.objs.size (.lst [])) fp pins=X' at I4
 have hfp: ∀(H:Hp),(∀b∈fp,H b=none)-> ∀b∈fp,kc X' [] H b:=fun H hn b hb=>by
  subst hX
  refine⟨hn b hb,aJ (lt3 b hb),tK I3 (hf3 b hb).2.1 (hf3 b hb).2.2.1, .inl hb,fun y c e=>(hf3 b hb).2.2.2.2.1 y c (ok.sub y c e),fun p hp=> ?_⟩
  have z:p∈(X.pn ++ pins) ++ []:=hp
  rw [bq]at z
  exact(hf3 b hb).2.2.2.2.2 p z
 have out: ∀(H:Hp) (s1:ai) (σ':St),Inv X' [] σ' H s1->Inv X pins σ H s1/\kc X pins H H2.objs.size:=fun H s1 σ' J=>by
  subst hX
  exact ok.out I3 hf3 J
 have elt': ∀(i:Nat) (d e:D),ds[i]? =some d->es[i]? =some e->aw X' (kR d cs) elt e:=fun i d e h1 h2=>by
  subst hX
  exact helt _ _ _ i d e h1 h2
 have env':X'.env=compEnvC scope cl H2.objs.size X.env:=by rw [<-hX]; rfl
 have N0:X'.N=N':=by rw [<-hX]; rfl
 have p1:X'.prog=X.prog:=by rw [<-hX]; rfl
 have p2:X'.w=X.w:=by rw [<-hX]; rfl
 have p3:X'.K=X.K:=by rw [<-hX]; rfl
 have p4:X'.calm=true:=by rw [<-hX]; exact hc
 have p5:X'.A=X.A:=by rw [<-hX]; rfl
 have p6:X'.xe=zH:=by rw [<-hX]; rfl
 clear hX
 obtain⟨r0,er0,hrl,hr⟩:=ok.hN
 have hN0:X'.N[0]? =some x:=by rw [N0,er0]; rfl
 have hLoc:X'.env.scope.names.lookup x=some .local:=by rw [env']; exact lookup_relabel_local ok.own
 have hMD: ∀a,(M a\/a=s₂.heap.objs.size)-> ∀H,bT H1 H->(∃ys,H s₂.heap.objs.size=some (.lst ys))->H a≠none:=fun a ha H sm hD' z=>by
  rcases ha with ha | rfl
  ·exact hM a ha (sm.free z)
  ·obtain⟨ys,e⟩:=hD'
   rw [z]at e; cases e
 have loop: ∀s₃:ai,s₃={s₂ with heap:=h₁,toks:=s₂.toks+([]:List (Str×Value)).length}->
   fK (model X.prog X.w) X.A (.compLoop (.ListComp elt [⟨.Name x px,iter, [],0⟩] scope pos) 0 (.ref it) (.ref s₂.heap.objs.size) (compEnvC scope cl H2.objs.size X.env)) (RR (.ref s₂.heap.objs.size) H2.objs.size) s₃:=by
  intro s₃ es3
  refine CY (fun n s'=> ∃(i:Nat) (ys:List V) (H:Hp) (σ':St),n=ds.length - i/\i<=ds.length/\Inv X' [] σ' H s'/\(∃ov,σ'=ov::(Mj σ js).tail)/\tn i s'.heap/\(∀b∈fp,H b=none)/\OU X.K M H1 es i s₂.heap.objs.size ys H) ?_ ds.length
   ⟨0, [],_,_,rfl,bN _,by rw [es3]; exact I4,⟨none,rfl⟩,by rw [es3]; exact st4,fun b hb=>(hf3 b hb).1,bG hD,bO,by rw [il]; exact rfl⟩
  rintro n s' ⟨i,ys,H,σ',rfl,hi,Iv,⟨ov,eσ⟩,sti,fri,ci⟩
  have gsH: ∀p∈gs,Dn X.K (fun a=>M a\/a=s₂.heap.objs.size) H p.1 p.2:=fun p hp=>((hg p hp).re fun a m=>m.elim .inl fun z=> .inr (by rw [z]; exact hD)).same ci.same
  obtain⟨w1,w2⟩:=w _ H gsH
  have item:=T.item X' p1 p2 p3 p4 i [] s' σ' H zH Iv (hfp H fri) sti
  have done:=T.done X' p1 p2 p3 p4 i [] s' σ' H zH Iv (hfp H fri) sti
  rw [p5]at item done
  by_cases hlt:i < ds.length
  ·obtain⟨g1,g2⟩:=w1 i ds[i] (ah hlt)
   refine fg (item g1) fun r s4 ⟨u,hr',h4⟩=> ?_
   subst hr'
   refine fg h4 fun _ s5 ⟨y,H5,I5,r5,y5,st5,fr5⟩=> ?_
   obtain⟨sm5,d5⟩:=g2 y H5 y5
   have I5':=I5.pinned (hfp H5 fr5) (T.obj _ _ st5)
   have asg:=tM (X:=X') (pos:=px) (i:=0) (by rw [N0]; exact hnd) hN0 (.inl hLoc) (.inr hLoc) _ s5 σ' H5 y u (fun σ6 H6=>σ6=σ'.set 0 (some y)/\H6=H5) I5' r5 ⟨rfl,rfl⟩
   rw [p1,p2,p5,p6,env']at asg
   refine fg asg fun _ s6 ⟨σ6,H6,I6,e6,e6'⟩=> ?_
   subst e6 e6'
   have ei:es[i]? =some (es[i]'(by rw [hl]; exact hlt)):=ah _
   have ev:=elt' i _ _ (ah hlt) ei
   have sm15:bT H1 H6:=ci.same.trans sm5
   have hD5:H6 s₂.heap.objs.size=some (.lst ys):=sm5 _ _ ci.at_
   have Rp:Rep X'.K (fun a=>M a\/a=s₂.heap.objs.size) H6 [] (fun _=>0) (kR ds[i] cs) (σ'.set 0 (some y)) H6:=by
    refine⟨bT.refl _,fun a ha=>hMD a ha H6 sm15 ⟨ys,hD5⟩,fun k l fs gs' e1=> ?_,fun k d0 e1=> ?_,fun k fs e1=> ?_,(fun p hp=>by cases hp), ?_⟩
    ·exfalso
     unfold kR at e1
     cases k with
     | zero=>cases aH e1
     | succ k=>
      rw [cG,aA]at e1
      cases z:cs[k]? with
      | none=>rw [z]at e1; cases e1
      | some c=>rw [z]at e1; cases aH e1
    ·have mmM: ∀a,MM (fun a=>M a\/a=s₂.heap.objs.size) (kR ds[i] cs) (fun _=>0) a->(M a\/a=s₂.heap.objs.size):=fun a ha=>by
      rcases ha with ha | ⟨k',fs,e2,_⟩
      ·exact ha
      ·exfalso
       unfold kR at e2
       cases k' with
       | zero=>cases aH e2
       | succ k'=>
        rw [cG,aA]at e2
        cases z:cs[k']? with
        | none=>rw [z]at e2; cases e2
        | some c=>rw [z]at e2; cases aH e2
     subst eσ
     unfold kR at e1
     cases k with
     | zero=>
      have z:Sl.im ds[i]=Sl.im d0:=aH e1
      cases z
      refine⟨y,rfl, ?_⟩
      rw [p3]
      exact d5.less mmM
     | succ k=>
      rw [cG,aA]at e1
      cases z:cs[k]? with
      | none=>rw [z]at e1; cases e1
      | some c=>
       rw [z]at e1
       have z':Sl.im c=Sl.im d0:=aH e1
       have hk:k < js.length:=by rw [hcap.1]; exact(aI.mp z).1
       obtain⟨v,hv,dv⟩:=hcap.2 k js[k] c (ah hk) z
       cases z'
       refine⟨v, ?_, ?_⟩
       ·show(js.map fun j=>(σ[j]?).join)[k]? =some (some v)
        rw [aA,ah hk]
        show some (σ[js[k]]?).join=_
        rw [hv]
        rfl
       ·rw [p3]
        exact(((dv.re fun a m=>m.elim .inl fun q=> .inr (by rw [q]; exact hD)).same sm15)).less mmM
    ·exfalso
     unfold kR at e1
     cases k with
     | zero=>cases aH e1
     | succ k=>
      rw [cG,aA]at e1
      cases z:cs[k]? with
      | none=>rw [z]at e1; cases e1
      | some c=>rw [z]at e1; cases aH e1
    ·subst eσ
     rw [bL]
     show(js.map fun j=>(σ[j]?).join).length+1=(cs.map Sl.im).length+1
     rw [ae,ae,hcap.1]
   have evw:=ev _ H6 [] (fun _=>0) _ H6 (fun v H'=>bT H6 H'/\Dn X.K (fun a=>M a\/a=s₂.heap.objs.size) H' (es[i]'(by rw [hl]; exact hlt)) v) Rp (fun v H' sm dn=>⟨sm,by
    rw [p3]at dn
    exact dn.less fun a ha=> .inl ha⟩) _ s6 I6
   rw [p1,p2,p5,p6,env']at evw
   refine fg evw fun yv s7 ⟨v,H7,I7,r7,sm7,dn7⟩=> ?_
   have ap:=oX (X:=X') _ s7 _ H7 (.ref s₂.heap.objs.size) [v] (.ref s₂.heap.objs.size) [yv] (fun _ H8=>H8=upd H7 s₂.heap.objs.size (.lst (ys ++ [v]))) I7 rfl (.cons r7 .nil)
    ⟨_,ys,v,rfl,rfl,sm7 _ _ hD5,by rw [ci.dn.len,bu]; exact jh (bE (Nat.min_le_left _ _) (by omega)) (by decide:(1000000:Nat) < sizeLine),rfl⟩
   rw [p1,p2,p5,p6]at ap
   refine fg ap fun _ s8 ⟨_,H8,I8,_,e8⟩=> ?_
   subst e8
   refine⟨ds.length - (i+1),by omega,i+1,ys ++ [v],_,_,rfl,hlt,I8.unpinned,⟨some y,by rw [eσ]; rfl⟩,
    T.keep _ _ _ st5 fun b hb o e=>(I8.pin (b,o) (ba _ (ba _ (g9 hb e)))).1,fun b hb=> ?_, ?_⟩
   ·obtain⟨o,e,_⟩:=T.obj _ _ st5 b hb
    exact(I8.pin (b,o) (ba _ (ba _ (g9 hb e)))).2.1
   ·refine⟨iz (sm15.trans sm7) hD,bO, ?_⟩
    have kp:p7 (fun a=>M a\/a=s₂.heap.objs.size) H7 (upd H7 s₂.heap.objs.size (.lst (ys ++ [v]))):=fun b o e n=>by
     by_cases hb:b=s₂.heap.objs.size
     ·subst hb
      rw [sm7 _ _ hD5]at e; cases e
      exact absurd (.inr rfl) (n _ rfl)
     ·rw [cD hb]; exact e
    rw [eX,ei]
    exact(cN.app (ci.dn.same (sm5.trans sm7)) (cN.one dn7)).keep kp
  ·have e:i=ds.length:=by omega
   subst e
   refine fg (done w2) fun r s4 ⟨hr',I5⟩=> ?_
   subst hr'
   obtain⟨o1,o2⟩:=out H s4 σ' I5
   obtain⟨m,hn,_⟩:=I5.loc
   rw [env']at hn
   refine hRR _ _ m s4 H ys o1 hn o2 hD ci.same ci.at_ ?_
   have:=ci.dn
   rw [<-hl,dP]at this
   exact this
 exact codeAny_compStart_list (loop _ rfl) (T.self X.A 0 _ _ _ st4 (loop _ rfl))
def zx(ρ:fm)(js:List Nat)(cs:List D):Prop:=js.length=cs.length/\ ∀(k j:Nat) (c:D),js[k]? =some j->cs[k]? =some c->ρ[j]? =some (.im c)
theorem zx.ok{K:Frag}{M0:MP}{H0 H H':Hp}{γ:List (D×V)}{α:Nat->Addr}{ρ:fm}{σ:St}(h:zx ρ js cs)(R:Rep K M0 H0 γ α ρ σ H)(s:bT H H'):GO K (MM M0 ρ α) H' σ js cs:=
 ⟨h.1,fun k j c e1 e2=>let⟨v,q1,q2⟩:=R.im j c (h.2 k j c e1 e2); ⟨v,q1,q2.same s⟩⟩
theorem iZ{K:Frag}{M0:MP}{H0 H H':Hp}{γ:List (D×V)}{α:Nat->Addr}{ρ:fm}{σ:St}(R:Rep K M0 H0 γ α ρ σ H)(s:bT H H'): ∀a,MM M0 ρ α a->H' a≠none:=fun a ha z=>by
 have z':=s.free z
 rcases ha with ha | ⟨i,ds,e,rfl⟩
 ·exact R.old a ha (R.same.free z')
 ·obtain⟨_,_,xs,e3,_⟩:=R.mu i ds e
  rw [z']at e3; cases e3
theorem eJ.comp{ρ:fm}(ok:eY X N' js scope x cl)(hc:X.calm=true)(hnd:N'.Nodup)(hs:lE X ρ (.Name x px) iter ds)(hcs:zx ρ js cs)(hl:es.length=ds.length)(hsz:ds.length<=1000000)
  (helt: ∀(C:Addr) (s₀:ai) (H₀:Hp) (fp:List Addr) (pins:List (Addr×Obj)) (i:Nat) (d e:D),ds[i]? =some d->es[i]? =some e->aw (jU X N' scope cl C s₀ H₀ fp pins) (kR d cs) elt e)
  (hfi: ∀v,jz iter X.env v=pure v:=by intro _; rfl):eJ X ρ (.ListComp elt [⟨.Name x px,iter, [],0⟩] scope pos) es:=fun M0 H0 γ α σ H Q R k pins s I=>by
 rw [eval_ListComp]
 refine Ao (use:=none) rfl hfi ok.Di ok.kind ok.names ?_
 have h:=hs M0 H0 γ α σ H (fun J H1=> ∃gs,bT H H1/\(∀p∈gs,Dn X.K (MM M0 ρ α) H1 p.1 p.2)/\Walk X.K J ds gs) R (fun J H1 gs s g w=>⟨gs,s,g,w⟩) pins s I
 refine fg h fun v s1 h1=>fg h1 fun itv s2 ⟨it,fp,tn,J,H1,e,I2,T,st,f,gs,sm,hg,w⟩=> ?_
 subst e
 refine uC ok hc hnd I2 T st f hg w hl hsz (hcs.ok R sm) (iZ R sm) (fun C s₀ H₀ i d e=>helt C s₀ H₀ fp pins i d e) fun D0 C m s1 H2 ys I1 hn fo hD sm1 ha dn=> ?_
 exact⟨m,hn,fun h' sb=>⟨.ref D0,H2,I1.turned (t':=s1.toks) (fun b o hb e=>sb.extBut b o hb e) fo.1 fo.2.1 fo.2.2.2.1 fo.2.2.2.2.1 fo.2.2.2.2.2,rfl,k D0 ys H1 H2 sm hD sm1 ha dn⟩⟩
theorem W1.comp{ρ:fm}{M0:MP}{H0:Hp}{P:qD}{i:Nat}{y:Str}{py spos:Pos}(ok:eY X N' js scope x cl)(hc:X.calm=true)(hnd:N'.Nodup)(hs:lE X ρ (.Name x px) iter ds)(hcs:zx ρ js cs)(hl:es.length=ds.length)(hsz:ds.length<=1000000)
  (helt: ∀(C:Addr) (s₀:ai) (H₀:Hp) (fp:List Addr) (pins:List (Addr×Obj)) (i:Nat) (d e:D),ds[i]? =some d->es[i]? =some e->aw (jU X N' scope cl C s₀ H₀ fp pins) (kR d cs) elt e)
  (hN:X.N.Nodup)(hi:X.N[i]? =some y)(hy:X.env.scope.names.lookup y=some .local)(hlt:i < ρ.length)(q:P.N (ρ.set i (.mu es)))
  (hsw:dh (.ListComp elt [⟨.Name x px,iter, [],0⟩] scope pos) (some (.Name y py)) spos.line X.env=pure true:=by rfl)(hfi: ∀v,jz iter X.env v=pure v:=by intro _; rfl):
  W1 X M0 H0 (.Assign [.Name y py] (.ListComp elt [⟨.Name x px,iter, [],0⟩] scope pos) spos) ρ P:=fun γ α σ H R pins s I=>by
 rw [exec_Assign_Name_used _ _ _ _ hsw]
 refine aa (rd (aa ?_))
 show wpAny _ X.A (do let _<-comprehension (.ListComp elt [⟨.Name x px,iter, [],0⟩] scope pos) scope X.env _ (newList []) false (eval iter X.env) (some (qp (.Name y py) X.env))) _ _ s
 refine aa (bW (Ao (use:=some (qp (.Name y py) X.env)) (Q:=fun _ s'=>SP X pins (ends X.K M0 H0 γ P) .next s') rfl hfi ok.Di ok.kind ok.names ?_) (fun _ s' hq=>af (af hq)) fun _ _ e=>e)
 have h:=hs M0 H0 γ α σ H (fun J H1=> ∃gs,bT H H1/\(∀p∈gs,Dn X.K (MM M0 ρ α) H1 p.1 p.2)/\Walk X.K J ds gs) R (fun J H1 gs s g w=>⟨gs,s,g,w⟩) pins s I
 refine fg h fun v s1 h1=>fg h1 fun itv s2 ⟨it,fp,tn,J,H1,e,I2,T,st,f,gs,sm,hg,w⟩=> ?_
 subst e
 refine uC ok hc hnd I2 T st f hg w hl hsz (hcs.ok R sm) (iZ R sm) (fun C s₀ H₀ i d e=>helt C s₀ H₀ fp pins i d e) fun D0 C m s1 H2 ys I1 hn fo hD sm1 ha dn=> ?_
 show wpAny _ _ (qp (.Name y py) X.env (.ref D0)) _ _ s1
 refine wpAny_assign_Name (rK (v:= .ref D0) I1 hN hi (.inl hy) rfl (fun s' I' ⟨a,sb,ea⟩=> ?_) (.inr hy))
 have hCa:C≠a:=by
  rcases ea with rfl | ea
  ·exact fo.2.1
  ·exact fun z=>fo.2.2.2.2.1 y a ea z.symm
 refine⟨m,hn.at' fun o e=>sb.extBut C o hCa e,fun h' sb'=>⟨_,H2,I'.turned (t':=s'.toks) (fun b o hb e=>sb'.extBut b o hb e) fo.1 fo.2.1 fo.2.2.2.1 fo.2.2.2.2.1 fo.2.2.2.2.2, ?_⟩⟩
 exact⟨_,_,(R.next sm).set_mu hlt hD sm1 ha dn,q⟩
end
def mX(K:Frag){ι:Type}(args:ι->List D)(pre:ι->Prop)(res:ι->Except Addr D):Sp:=fun vs H Q E=>
 ∃(i:ι) (M0:MP),(∀a,M0 a->H a≠none)/\cN K M0 H (args i) vs/\pre i/\(∀d,res i= .ok d-> ∀v H',bT H H'->Dn K M0 H' d v->Q v H')/\(∀C,res i= .error C-> ∀a H',bT H H'->E (.ref C) a H')
structure nq(P:aq)(w:World)(K:Frag)(mg:Str->Option Value)(base:Heap)(CX:gF)(k:Nat)(x:Str){ι:Type}(args:ι->List D)(pre:ι->Prop)(res:ι->Except Addr D):Prop where
 ex: ∃(f:Addr) (fd:bj) (ps:List Str),nS P w K mg base CX k f fd ps (mX K args pre res)/\mg x=some (.ref f)/\aK K (.ref f)=true/\Binds K fd ps []
def D.noL:Nat->D->Prop
 | _, .non=>True
 | _, .bl _=>True
 | _, .int _=>True
 | _, .str _=>True
 | n+1, .tup ds=> ∀d∈ds,D.noL n d
 | _,_=>False
theorem Dn.noL{K:Frag}{M M':MP}{H:Hp}: ∀(n:Nat) {d:D} {v:V},D.noL n d->Dn K M H d v->Dn K M' H d v:=by
 intro n
 induction n with
 | zero=>intro d v hf h; cases d <;> first | exact h | exact hf.elim
 | succ n ih=>
  intro d v hf h
  cases d with
  | tup ds=>
   obtain⟨a,xs,e,s,r⟩:=h
   refine⟨a,xs,e,s, ?_⟩
   clear s e
   induction ds generalizing xs with
   | nil=>exact r
   | cons d ds hi=>
    obtain⟨v,t,e,h1,h2⟩:=r
    exact⟨v,t,e,ih (hf d (.head _)) h1,hi (fun x hx=>hf x (.tail _ hx)) t h2⟩
  | non=>exact h
  | bl _=>exact h
  | int _=>exact h
  | str _=>exact h
  | _=>exact hf.elim
section
variable {X:Cx}{ρ:fm}{e:Expr}{es:List Expr}{d:D}{pos p:Pos}{CX:gF}{k:Nat}{x:Str}{ι:Type}{args:ι->List D}{pre:ι->Prop}{res:ι->Except Addr D}
theorem aw.call(F:nq X.prog X.w X.K X.mg X.base CX k x args pre res)(hr:fI k X.A)(hx:Passes CX X E0)(hg:Gl X x)(i:ι)(ha:aY X ρ (e::es) (args i))(hp:pre i)(hres:res i= .ok d)(hdb:(x==("__debug__":Str))=false:=by decide)
  (he:au (e::es) X.env=(false,eval e X.env)::au es X.env:=by rfl)(hpl:(eQ pos (au es X.env)).any (·.1)=false:=by rfl):aw X ρ (.Call (.Name x p) (e::es) [] pos) d:=fun M0 H0 γ α σ H Q R kk=>by
 obtain⟨f,fd,ps,F,hm,hk,hb⟩:=F.ex
 refine(xS F hr hg hm hk hb .nil hx xE hdb he hpl).to (ha M0 H0 γ α σ H _ R fun vs H1 s1 d1=> ?_)
 show mX X.K args pre res (vs ++ []) H1 Q E0
 rw [bq]
 exact⟨i,MM M0 ρ α,iZ R s1,d1,hp,fun d' e v H2 s2 dn=>by rw [hres]at e; cases e; exact kk v H2 (s1.trans s2) dn,fun C e=>by rw [hres]at e; cases e⟩
theorem zJ.noM{K:Frag}{M:MP}{H:Hp}: ∀{ds:List D} {vs:List V},zJ K M H ds vs->cN K L_ H ds vs
 | [],_,h=>h
 | d::ds,_,⟨v,r,e,h1,h2⟩=>⟨v,r,e,by
   cases d with
   | lst es=>
    obtain⟨a,xs,e1,s,q⟩:=h1
    refine⟨a,xs,e1, ?_,q.less fun _ z=>z.elim⟩
    rcases s with s | s
    ·exact .inl ⟨s,fun z=>z⟩
    ·exact .inr s
   | _=>exact Dn.noM (M:=M) h1,zJ.noM h2⟩
theorem aw.callR(F:nq X.prog X.w X.K X.mg X.base CX k x args pre res)(hr:fI k X.A)(hx:Passes CX X E0)(hg:Gl X x)(i:ι)(ha:vM X ρ (e::es) (args i))(hp:pre i)(hres:res i= .ok d)(hd:D.noL 9 d)(hdb:(x==("__debug__":Str))=false:=by decide)
  (he:au (e::es) X.env=(false,eval e X.env)::au es X.env:=by rfl)(hpl:(eQ pos (au es X.env)).any (·.1)=false:=by rfl):aw X ρ (.Call (.Name x p) (e::es) [] pos) d:=fun M0 H0 γ α σ H Q R kk=>by
 obtain⟨f,fd,ps,F,hm,hk,hb⟩:=F.ex
 refine(xS F hr hg hm hk hb .nil hx xE hdb he hpl).to (ha M0 H0 γ α σ H _ R fun vs H1 s1 d1=> ?_)
 show mX X.K args pre res (vs ++ []) H1 Q E0
 rw [bq]
 exact⟨i,L_,fun a z=>z.elim,d1.noM,hp,fun d' e v H2 s2 dn=>by rw [hres]at e; cases e; exact kk v H2 (s1.trans s2) (Dn.noL 9 hd dn),fun C e=>by rw [hres]at e; cases e⟩
end
section
variable {X:Cx}{ρ:fm}{e:Expr}{ds:List D}{pos p:Pos}
theorem aw.lenL(hg:Gl X "len")(hm:X.mg "len"=none)(h:mZ X ρ e (.lst ds))(he:au [e] X.env= [(false,eval e X.env)]:=by rfl):aw X ρ (.Call (.Name "len" p) [e] [] pos) (.int ds.length):=aw.len hg hm h rfl he
theorem aw.lenT(hg:Gl X "len")(hm:X.mg "len"=none)(h:aw X ρ e (.tup ds))(he:au [e] X.env= [(false,eval e X.env)]:=by rfl):aw X ρ (.Call (.Name "len" p) [e] [] pos) (.int ds.length):=aw.len hg hm h.r rfl he
theorem eJ.listL(hg:Gl X "list")(hm:X.mg "list"=none)(h:mZ X ρ e (.lst ds))(he:au [e] X.env= [(false,eval e X.env)]:=by rfl):eJ X ρ (.Call (.Name "list" p) [e] [] pos) ds:=eJ.list hg hm (by decide +kernel) h rfl he
theorem eJ.listT(hg:Gl X "list")(hm:X.mg "list"=none)(h:aw X ρ e (.tup ds))(he:au [e] X.env= [(false,eval e X.env)]:=by rfl):eJ X ρ (.Call (.Name "list" p) [e] [] pos) ds:=eJ.list hg hm (by decide +kernel) h.r rfl he
theorem aw.tupleL(hg:Gl X "tuple")(hm:X.mg "tuple"=none)(h:mZ X ρ e (.lst ds))(he:au [e] X.env= [(false,eval e X.env)]:=by rfl):aw X ρ (.Call (.Name "tuple" p) [e] [] pos) (.tup ds):=aw.tuple hg hm (by decide +kernel) h rfl he
end
theorem tq{α β:Type}(g:α->β)(xs:List α)(k:Int):wg (xs.map g) k=(wg xs k).map g:=by
 unfold wg
 rw [ae]
 cases E_ xs.length k with
 | none=>rfl
 | some j=>show(xs.map g)[j]? =(xs[j]?).map g; rw [aA]
theorem rF{α:Type}{xs:List α}{k:Int}{j:Nat}(hk:k=(j:Int))(h:j < xs.length):wg xs k=some xs[j]:=by
 subst hk; exact Jq (ah h)
def sC(N:List Str)(ds:List D):fm:=ds.map .im ++ ik (N.length - ds.length) .un
section
variable {P:aq}{w:World}{K:Frag}{mg:Str->Option Value}{base:Heap}{CX:gF}{k:Nat}{x qual:Str}{st:Stmt}{f:Addr}{fd:bj}{N ps:List Str}{ι:Type}{args:ι->List D}{pre:ι->Prop}{res:ι->Except Addr D}
theorem rep0{ds:List D}{vs:List V}{M0:MP}{H:Hp}{α:Nat->Addr}(hM: ∀a,M0 a->H a≠none)(h:cN K M0 H ds vs):Rep K M0 H [] α (sC N ds) (L2.start N vs) H:=by
 have hl:=h.len
 have get: ∀(i:Nat) (s:Sl),(sC N ds)[i]? =some s->(∃d,ds[i]? =some d/\s= .im d)\/s= .un:=fun i s e=>by
  unfold sC at e
  by_cases hi:i < ds.length
  ·rw [fG (by simpa using hi),aA,ah hi]at e
   exact .inl ⟨_,ah hi,(aH e).symm⟩
  ·rw [fv (by simpa using hi),AA]at e
   split at e
   ·exact .inr (aH e).symm
   ·cases e
 refine⟨bT.refl _,hM,fun i j es fs e1=> ?_,fun i d e=> ?_,fun i es e=> ?_,(fun p hp=>by cases hp), ?_⟩
 ·rcases get i _ e1 with⟨_,_,z⟩ | z <;> cases z
 ·rcases get i _ e with⟨d',e1,z⟩ | z
  ·cases z
   obtain⟨v,q1,q2⟩:=h.get e1
   have hi:i < vs.length:=(aI.mp q1).1
   refine⟨v, ?_,q2.less fun a z=> ?_⟩
   ·unfold L2.start
    rw [fG (by simpa using hi),aA,q1]
    rfl
   ·rcases z with z | ⟨j,es,e2,_⟩
    ·exact z
    ·rcases get j _ e2 with⟨_,_,z⟩ | z <;> cases z
  ·cases z
 ·rcases get i _ e with⟨_,_,z⟩ | z <;> cases z
 ·unfold L2.start sC
  simp only [ao,ae,jQ,hl]
theorem fD(F:lu K x qual st f fd)(S:bV N ps (aE st))(hm:mg x=some (.ref f))(hb:Binds K fd ps [])(hl: ∀i,(args i).length=ps.length)
  (body: ∀(cdv:Value) (A:bA) (outer:List Env) (s:ai) (H:Hp) (E:XK) (i:ι) (M0:MP),pre i->fI k (A.deeper (kM qual (aE st) s.heap.objs.size f cdv))->
   ∃d,res i= .ok d/\WS (lC CX P w K mg base N qual (aE st) f cdv A outer s H E).nox M0 H (aP st) (sC N (args i)) {N:=fun _=>d= .non,R:=fun d'=>d'=d}):nq P w K mg base CX (k+1) x args pre res:=by
 refine⟨f,fd,ps, ?_,hm,F.kp,hb⟩
 obtain⟨oc,od,kV,doc,pm,an,cdv,ct,osl,rfl,lk,hcd⟩:=F.ex
 refine Ae lk hcd S (fun vs H Q E ⟨i,M0,_,h,_⟩=>by rw [h.len,hl]) fun A outer s H vs Q E hr hsp=> ?_
 obtain⟨i,M0,hM,h,hp,k1,k2⟩:=hsp
 obtain⟨d,hd,ws⟩:=body cdv A outer s H E i M0 hp hr
 refine⟨oM _ (aP st),(f_ (X:=(lC CX P w K mg base N qual (aE st) f cdv A outer s H E).nox)).nox, ?_⟩
 refine oM.mono (En:=ends K M0 H [] {N:=fun _=>d= .non,R:=fun d'=>d'=d}) (fun σ' H' ⟨α,ρ,R,e⟩=> ?_) (fun v H' ⟨d',e,sm,dn⟩=> ?_) (fun _ _ ⟨_,_,_,z⟩=>z.elim) (fun _ _ ⟨_,_,_,z⟩=>z.elim) (ws [] (fun _=>0) _ H (rep0 hM h))
 ·exact k1 d hd .non H' R.same (by rw [e]; exact rfl)
 ·subst e
  exact k1 _ hd v H' sm dn
end
def K2:D->String
 | .non=>"NoneType"
 | .bl _=>"bool"
 | .int _=>"int"
 | .str _=>"str"
 | .tup _=>"tuple"
 | .lst _=>"list"
 | .ins _ _ _=>""
 | .exc _=>""
 | .dct _ _=>""
def p9:D->Bool
 | .ins _ _ _=>false
 | .exc _=>false
 | .dct _ _=>false
 | _=>true
def w9(T:String)(d:D):Bool:=K2 d==T || (T=="int"&&K2 d=="bool")
section
variable {K:Frag}
theorem Mu{d:D}{T:String}(hp:p9 d=true)(hT:T="int"\/T="bool"\/T="str"\/T="tuple"\/T="list"):aZ K (.type (K2 d)) (.type T)=some (w9 T d):=by
 rcases hT with rfl | rfl | rfl | rfl | rfl <;> cases d <;> first | rfl | (cases hp)
end
section
variable {X:Cx}{ρ:fm}{M0:MP}{H0:Hp}{P:qD}{e a b:Expr}{es:List Expr}{d:D}{ds:List D}{pos p p2:Pos}
theorem Lv{pins:List (Addr×Obj)}{σ:St}{H:Hp}{s:ai}{M:MP}{v:V}{u c:Value}{r:Bool}{Q:Value->ai->Prop}{E:Value->ai->Prop}{A:bA}(I:Inv X pins σ H s)(h:qM X.K M H d v)(rv:RelV v u)(hp:p9 d=true)
  (e:aZ X.K (.type (K2 d)) c=some r)(k: ∀tk,Q (.bool r) {s with toks:=tk}):wpAny (model X.prog X.w) A (call (.builtin "isinstance") [u,c]) Q E s:=by
 cases d with
 | non=>cases (show v= .non from h); cases (show u=aR from rv); exact iW PySem.W.kitx_none I.kIn c_ e (fun z=>nomatch z) k
 | bl y=>cases (show v= .bl y from h); cases (show u=fS y from rv); exact iW PySem.W.kitx_bool I.kIn c_ e (fun z=>nomatch z) k
 | int i=>cases (show v= .int i from h); obtain⟨t,q⟩:=(show ∃t,u=gW i t from rv); cases q; exact iW PySem.W.kitx_int I.kIn c_ e (fun z=>nomatch z) k
 | str y=>cases (show v= .str y from h); obtain⟨t,q⟩:=(show ∃t,u=Az y t from rv); cases q; exact iW PySem.W.kitx_str I.kIn c_ e (fun z=>nomatch z) k
 | tup ds=>
  obtain⟨a,xs,rfl,sq,_⟩:=h
  cases (show u=ak a from rv)
  obtain⟨its,_,⟨o,h1,h2,_⟩,_⟩:=I.tuple sq
  exact iW PySem.W.kitx_tuple I.kIn ⟨o,h1,h2⟩ e (fun z=>nomatch z) k
 | lst ds=>
  obtain⟨a,xs,rfl,sq,_⟩:=h
  cases (show u=ak a from rv)
  obtain⟨its,_,⟨o,n,h1,h2,_⟩,_⟩:=I.list sq
  exact iW PySem.W.kitx_list I.kIn ⟨o,h1,h2⟩ e (fun z=>nomatch z) k
 | _=>cases hp
theorem J9{pins:List (Addr×Obj)}{σ:St}{H:Hp}{s:ai}{M:MP}{v:V}{u:Value}{tp:Addr}{dd:Option Addr}{its:List Value}{n:Nat}{sl:Array (Option Value)}{r:Bool}{Q:Value->ai->Prop}{E:Value->ai->Prop}{A:bA}(I:Inv X pins σ H s)(h:qM X.K M H d v)(rv:RelV v u)(hp:p9 d=true)
  (ht:s.heap.get? tp=some ⟨.type "tuple",dd, .seq its.toArray n,sl⟩)(e:PySem.W.kitAny X.K (.type (K2 d)) its=some r)(k: ∀tk,Q (.bool r) {s with toks:=tk}):wpAny (model X.prog X.w) A (call (.builtin "isinstance") [u, .ref tp]) Q E s:=by
 cases d with
 | non=>cases (show v= .non from h); cases (show u=aR from rv); exact kN PySem.W.kitx_none I.kIn c_ ht e (fun z=>nomatch z) k
 | bl y=>cases (show v= .bl y from h); cases (show u=fS y from rv); exact kN PySem.W.kitx_bool I.kIn c_ ht e (fun z=>nomatch z) k
 | int i=>cases (show v= .int i from h); obtain⟨t,q⟩:=(show ∃t,u=gW i t from rv); cases q; exact kN PySem.W.kitx_int I.kIn c_ ht e (fun z=>nomatch z) k
 | str y=>cases (show v= .str y from h); obtain⟨t,q⟩:=(show ∃t,u=Az y t from rv); cases q; exact kN PySem.W.kitx_str I.kIn c_ ht e (fun z=>nomatch z) k
 | tup ds=>
  obtain⟨a,xs,rfl,sq,_⟩:=h
  cases (show u=ak a from rv)
  obtain⟨its,_,⟨o,h1,h2,_⟩,_⟩:=I.tuple sq
  exact kN PySem.W.kitx_tuple I.kIn ⟨o,h1,h2⟩ ht e (fun z=>nomatch z) k
 | lst ds=>
  obtain⟨a,xs,rfl,sq,_⟩:=h
  cases (show u=ak a from rv)
  obtain⟨its,_,⟨o,n,h1,h2,_⟩,_⟩:=I.list sq
  exact kN PySem.W.kitx_list I.kIn ⟨o,h1,h2⟩ ht e (fun z=>nomatch z) k
 | _=>cases hp
def OR(K:Frag):List V->Hp->VK->Prop:=fun xs H Q=> ∃v T M d,xs= [v, .ty T]/\qM K M H d v/\p9 d=true/\(T="int"\/T="bool"\/T="str"\/T="tuple"\/T="list")/\Q (.bl (w9 T d)) H
theorem Fx:g7 X (.builtin "isinstance") (OR X.K):=by
 intro pins s σ H xs us Q I r ⟨v,T,M,d,e,h,hp,hT,q⟩
 subst e
 obtain⟨u,c,rfl,r1,r2⟩:=vals2 r
 cases (show c=cR T from r2)
 exact Lv I h r1 hp (Mu hp hT) fun tk=>⟨.bl _,H,I.tok tk,rfl,q⟩
theorem aw.s_{T:String}{x:Str}(hg:Gl X "isinstance")(hm:X.mg "isinstance"=none)(hgT:Gl X x)(hmT:X.mg x=none)(hv:dE x=some (.type T))(hT:T="int"\/T="bool"\/T="str"\/T="tuple"\/T="list")(h:mZ X ρ e d)(hp:p9 d=true)
  (he:au [e, .Name x p2] X.env=(false,eval e X.env)::au [.Name x p2] X.env:=by rfl)(he2:au [.Name x p2] X.env= [(false,eval (.Name x p2) X.env)]:=by rfl)(hpl:(eQ pos (au [.Name x p2] X.env)).any (·.1)=false:=by rfl)
  (hn:x≠"__name__":=by decide)(hd:(x==("__debug__":Str))=false:=by decide):aw X ρ (.Call (.Name "isinstance" p) [e, .Name x p2] [] pos) (.bl (w9 T d)):=fun M0 H0 γ α σ H Q R k=>
 (iy Fx hg hm wo (eu iu (eu (tL (v:= .ty T) hgT hmT hv rfl hn hd) gZ he2) he) (by decide) (by decide) he hpl).to (h M0 H0 γ α σ H _ R fun v H1 s1 d1=>⟨v,T,_,d,rfl,d1,hp,hT,k _ H1 s1 rfl⟩)
def dN(ns:List Int):Nat:=(firstMet (fun i=>ns.getD i 0) ns.length).length
theorem DQ(hc:X.calm=true):g7 X (.type "set") (fun xs H Q=> ∃q ns,xs= [.ref q]/\pU X.K H q (ns.map V.int)/\ns.length < 4000/\ ∀l S,H l=none->Q (.ref l) (upd H l (.set S (dN ns)))):=by
 intro pins s σ H xs us Q I r ⟨q,ns,e,hq,hl,k⟩
 subst e
 obtain⟨u,rfl,rx⟩:=vals1 r
 cases rx
 obtain⟨its,r',pl,hz⟩:=I.list hq
 have hlen:=r'.length
 rw [ae]at hlen
 have e:its.toArray.size=ns.length:=by rw [aC]; exact hlen.symm
 refine PySem.call_set_list (I.ok.hd hc) pl.isList (intsAre_of r') (by rw [e]; unfold scanBound; omega) fun h' tk hS hk=> ?_
 rw [e]at hS
 exact⟨.ref s.heap.objs.size,_,I.laid (t':=tk) (fun b o e=>hk b o (av e) e) (ay _) (o:= .set _ (dN ns)) hS,rfl,k _ _ I.fresh⟩
theorem zL:g7 X (.builtin "len") (fun xs H Q=> ∃q S n,xs= [.ref q]/\H q=some (.set S n)/\Q (.int n) H):=by
 intro pins s σ H xs us Q I r ⟨q,S,n,e,hq,k⟩
 subst e
 obtain⟨u,rfl,rx⟩:=vals1 r
 cases rx
 obtain⟨o,es,ep,t,h1,h2,h3,_,_,h6,h7,h8⟩:=(show s.heap.SetOf (fX X.prog X.w) q S n from I.eI q _ hq)
 refine call_len_set h1 h2 h3 h7 (by unfold scanBound at h6; omega) ⟨.int n,H,I.tok _,⟨_,by rw [h8]⟩,k⟩
theorem aw.lenSet{ns:List Int}{p3:Pos}(hc:X.calm=true)(hg:Gl X "len")(hm:X.mg "len"=none)(hg2:Gl X "set")(hm2:X.mg "set"=none)(h:mZ X ρ e (.lst (ns.map .int)))(hl:ns.length < 4000)
  (he:au [e] X.env= [(false,eval e X.env)]:=by rfl)(he2:au [.Call (.Name "set" p2) [e] [] p3] X.env= [(false,eval (.Call (.Name "set" p2) [e] [] p3) X.env)]:=by rfl):aw X ρ (.Call (.Name "len" p) [.Call (.Name "set" p2) [e] [] p3] [] pos) (.int (dN ns)):=fun M0 H0 γ α σ H Q R k=>
 (iy zL hg hm PySem.boot_len (eu (km (DQ hc) hg2 hm2 (by decide +kernel) (eu iu gZ he) (by decide) (by decide) he) gZ he2) (by decide) (by decide) he2).to (h M0 H0 γ α σ H _ R fun v H1 s1 d1=>by
  obtain⟨q,xs,rfl,sq,dn⟩:=d1
  rw [dn.ints]at sq
  exact⟨q,ns,rfl,sq,hl,fun l S hl'=>⟨l,S,_,rfl,bO,k _ _ (s1.trans (bG hl')) rfl⟩⟩)
theorem Nu(ns:List Int):dN ns<=ns.length:=firstMet_length_le _ _
theorem CQ(l:List Int): ∀σ:List Int,σ.Nodup->(∀x∈l,x∈σ->False)->l.Nodup->(l.foldl j5 σ).length=σ.length+l.length:=by
 induction l with
 | nil=>intro σ _ _ _; rfl
 | cons a l ih=>
  intro σ h1 h2 h3
  rw [eZ]at h3
  have na:a∉σ:=fun z=>h2 a (.head _) z
  rw [Lc]
  have e:j5 σ a=σ ++ [a]:=by
   unfold j5
   rw [if_neg]
   simpa using na
  rw [e,ih]
  ·simp only [ao,aL,dG]; omega
  ·rw [jE]
   exact⟨h1,by simp,fun x hx y hy z=>by rw [aN.mp hy]at z; exact na (z▸hx)⟩
  ·intro x hx hm
   rcases bP.mp hm with hm | hm
   ·exact h2 x (.tail _ hx) hm
   ·rw [aN.mp hm]at hx; exact h3.1 hx
  ·exact h3.2
theorem Hf(l:List Int): ∀σ:List Int, ¬(σ ++ l).Nodup->σ.Nodup->(l.foldl j5 σ).length < σ.length+l.length:=by
 induction l with
 | nil=>intro σ h1 h2; rw [bq]at h1; exact absurd h2 h1
 | cons a l ih=>
  intro σ h1 h2
  rw [Lc]
  by_cases ha:a∈σ
  ·have e:j5 σ a=σ:=by
    unfold j5
    rw [if_pos]
    simpa using ha
   rw [e]
   have:=length_foldl_step_dedup_le l σ
   rw [aL]; omega
  ·have e:j5 σ a=σ ++ [a]:=by
    unfold j5
    rw [if_neg]
    simpa using ha
   rw [e]
   have:=ih (σ ++ [a]) (by rw [aV]; exact h1) (by
    rw [jE]
    exact⟨h2,by simp,fun x hx y hy z=>by rw [aN.mp hy]at z; exact ha (z▸hx)⟩)
   rw [ao,fz]at this
   rw [aL]; omega
theorem range_getD(ns:List Int):(bH ns.length).map (fun i=>ns.getD i 0)=ns:=by
 apply eV
 intro i
 rw [aA]
 by_cases h:i < ns.length
 ·rw [q8 h,ah h]
  show some (ns.getD i 0)=_
  rw [aB,ah h]
  rfl
 ·rw [bt (by rw [cg]; omega),bt (by omega)]
  rfl
theorem HB(ns:List Int):dN ns=ns.length↔ns.Nodup:=by
 have e:dN ns=(ns.foldl j5 []).length:=by unfold dN firstMet; rw [range_getD]
 rw [e]
 by_cases h:ns.Nodup
 ·exact⟨fun _=>h,fun _=>by rw [CQ ns [] qr (fun _ _ z=>by cases z) h]; simp⟩
 ·refine⟨fun z=> ?_,fun z=>absurd z h⟩
  have:=Hf ns [] (by simpa using h) qr
  simp only [dG,BH]at this
  omega
theorem Js:pA X (kf .Add) (NC X.K):=by
 intro pins s σ H x y v u Q I rx ry h
 obtain⟨l,b,xs,zs,rfl,rfl,hH,hB,hz,q⟩:=h
 cases rx
 cases ry
 obtain⟨its,r,⟨⟨oc,od,odt,osl⟩,n,e1,ec,ed,edt⟩,_⟩:=I.list hH
 obtain⟨its2,r2,⟨⟨oc2,od2,odt2,osl2⟩,n2,e2,ec2,ed2,edt2⟩,_⟩:=I.list hB
 have hl:=r.length
 have hl2:=r2.length
 simp only at ec ed edt ec2 ed2 edt2
 subst ec ed edt ec2 ed2 edt2
 refine BC ⟨_,e1,rfl⟩ ⟨_,e2,rfl⟩ noFill_list_add seq_list_add F.slot_list_add F.entry_list_add (F.args_list_add_2 _ _) (C1 l b its.toArray its2.toArray n n2 none none osl osl2 (by rw [aC,aC]; omega)) ⟨e1,e2, ?_⟩
 have ea:its.toArray ++ its2.toArray=(its ++ its2).toArray:=by simp
 rw [ea]
 exact⟨.ref _,_,I.lnew (t':=s.toks) (r.append r2) (by rw [ao]; omega),rfl,q _ I.fresh⟩
theorem eJ.cat{fs:List D}(ha:mZ X ρ a (.lst ds))(hb:mZ X ρ b (.lst fs))(hl:ds.length+fs.length<=1000000):eJ X ρ (.BinOp a .Add b pos) (ds ++ fs):=fun M0 H0 γ α σ H Q R k=>
 (GV Js iu iu).to (ha M0 H0 γ α σ H _ R fun v H1 s1 d1=>hb M0 H0 γ α σ H1 _ (R.next s1) fun u H2 s2 d2=>by
  obtain⟨q,xs,rfl,sq,dn⟩:=d1.same s2
  obtain⟨q2,xs2,rfl,sq2,dn2⟩:=d2
  exact⟨q,q2,xs,xs2,rfl,rfl,sq,sq2,by rw [dn.len,dn2.len]; exact ke hl,fun l hl'=>k l _ H2 _ (s1.trans s2) hl' (bG hl') bO ((uY hl' (cN.app dn dn2)).same (bG hl'))⟩)
theorem W1.popAt{i j:Nat}{x y:Str}{k:Int}{n:Nat}{p1 p3 p4:Pos}(hN:X.N.Nodup)(hi:X.N[i]? =some x)(hv:y7 X.env.scope x)(hρ:ρ[i]? =some (.mu ds))(hj:X.N[j]? =some y)(hy:Loc X.env.scope y)(hlt:j < ρ.length)(hij:j≠i)(h:aw X ρ e (.int k))
  (hk:k=(n:Int))(hn:ds[n]? =some d)(hn2:n < 1000000)(q:P.N ((ρ.set i (.mu (ds.eraseIdx n))).set j (.im d)))
  (mc:My X (.Name x p1) "pop" e p2 p3)(hd:(x==("__debug__":Str))=false:=by decide)(hcd:(x==("__classdict__":Str))=false:=by decide)
  (hs:dh (.Call (.Attribute (.Name x p1) "pop" p2) [e] [] p3) (some (.Name y p4)) pos.line X.env=pure false:=by rfl)(hf:X.fn y=true\/X.env.scope.names.lookup y=some .local:=by first | exact .inl rfl | exact .inr rfl | assumption):
  W1 X M0 H0 (.Assign [.Name y p4] (.Call (.Attribute (.Name x p1) "pop" p2) [e] [] p3) pos) ρ P:=fun γ α σ H R=>by
 obtain⟨m1,m2,m3,m4⟩:=mc
 obtain⟨a1,a2,xs,a3,a4⟩:=R.mu i ds hρ
 refine(rG hN hj hy (Im nW PySem.F.slot_list_pop PySem.F.type_list_pop FX (ng hi hv hd hcd) xE m1 m2 m3 m4 rfl) hs hf).to ?_
 refine⟨_,a2, .inl ⟨rfl,_,pU.of a3⟩,(aY.cons h aY.nil m4) M0 H0 γ α σ H _ R fun vs H1 s y1=> ?_⟩
 obtain⟨v,r,rfl,e1,e2⟩:=y1
 cases e2
 cases (show v= .int k from e1)
 subst hk
 obtain⟨u,hu,du⟩:=(a4.same s).get hn
 have hlen:=a4.len
 have hnl:n < xs.length:=(aI.mp hu).1
 have R1:=(R.next s).upd_mu hρ ((a4.same s).erase n)
 refine⟨α i,xs,(n:Int),n,u,rfl,rfl,s _ _ a3,by omega,by omega,(tf (by unfold E_; rw [if_pos (by omega),if_pos (by omega)]; simp)).1,hu,α,_,R1.set_im (by rw [bL]; exact hlt) ?_,q⟩
 have kp:p7 (MM M0 ρ α) H1 (upd H1 (α i) (.lst (xs.eraseIdx n))):=fun b o e n'=>by
  by_cases hb:b=α i
  ·subst hb
   rw [s _ _ a3]at e; cases e
   exact absurd (.inr ⟨i,ds,hρ,rfl⟩) (n' _ rfl)
  ·rw [cD hb]; exact e
 refine(du.keep kp).less fun a z=> ?_
 rcases z with z | ⟨l,es,e,z⟩
 ·exact .inl z
 ·rcases get_set e with⟨rfl,_⟩ | ⟨_,q⟩
  ·exact .inr ⟨l,ds,hρ,z⟩
  ·exact .inr ⟨l,es,q,z⟩
theorem W1.setIx{i n:Nat}{x:Str}{k:Int}{p1 p3:Pos}(hi:X.N[i]? =some x)(hv:y7 X.env.scope x)(hρ:ρ[i]? =some (.mu ds))(h:aw X ρ e d)(hb:aw X ρ b (.int k))(hk:k=(n:Int))(hn:n < ds.length)(q:P.N (ρ.set i (.mu (ds.set n d))))
  (hd:(x==("__debug__":Str))=false:=by decide)(hcd:(x==("__classdict__":Str))=false:=by decide)
  (hs:swapsWithSole [.Subscript (.Name x p1) b p3] e pos.line X.env=pure false:=by rfl)(hw:swappedStores [.Subscript (.Name x p1) b p3] e X.env=pure none:=by rfl)
  (h1:(assignEach [.Subscript (.Name x p1) b p3] X.env).map (·.2)= [qp (.Subscript (.Name x p1) b p3) X.env]:=by rfl)
  (ha: ∀v,qp (.Subscript (.Name x p1) b p3) X.env v=(do
   let ov<-kS [v] (eval (.Name x p1) X.env)
   let iv<-kS [v,ov] (eval b X.env)
   standAt p3
   kS [v,ov,iv] (setItem ov iv v)
   release [v,ov,iv] []):=by intro _; rfl):
  W1 X M0 H0 (.Assign [.Subscript (.Name x p1) b p3] e pos) ρ P:=fun γ α σ H R=>by
 obtain⟨a1,a2,xs,a3,a4⟩:=R.mu i ds hρ
 refine(LQ iu (Mi (ng hi hv hd hcd) iu set_list ha) hs hw h1).to (h M0 H0 γ α σ H _ R fun v H1 s1 d1=>⟨_,a2,hb M0 H0 γ α σ H1 _ (R.next s1) fun u H2 s2 d2=> ?_⟩)
 cases (show u= .int k from d2)
 subst hk
 have hl:=a4.len
 refine⟨α i,xs,(n:Int),n,rfl,rfl,s2 _ _ (s1 _ _ a3),by unfold E_; rw [if_pos (by omega),if_pos (by omega)]; simp,α,_,((R.next s1).next s2).upd_mu hρ ?_,q⟩
 exact cN.set (d1.same s2) n ((a4.same s1).same s2)
theorem W1.extend{i:Nat}{x:Str}{p1 p3:Pos}{fs:List D}(hi:X.N[i]? =some x)(hv:y7 X.env.scope x)(hρ:ρ[i]? =some (.mu ds))(h:aw X ρ e d)(hq:wZ d fs)(hl:ds.length+fs.length<=1000000)(q:P.N (ρ.set i (.mu (ds ++ fs))))
  (mc:My X (.Name x p1) "extend" e p2 p3)(hd:(x==("__debug__":Str))=false:=by decide)(hcd:(x==("__classdict__":Str))=false:=by decide)(hsw:dh (.Call (.Attribute (.Name x p1) "extend" p2) [e] [] p3) none pos.line X.env=pure false:=by rfl):
  W1 X M0 H0 (.Expr (.Call (.Attribute (.Name x p1) "extend" p2) [e] [] p3) pos) ρ P:=
 W1.mt1 nW PySem.F.slot_list_extend PySem.F.type_list_extend Jn hi hv hρ h (fun M H l xs v Q a b c k=>by
  obtain⟨q1,ys,rfl,sq,dn⟩:=yo hq c.t
  exact⟨l,q1,xs,ys,rfl,rfl,a,sq,by rw [b.len,dn.len]; exact ke hl,k _ _ (cN.app b dn)⟩) q mc hd hcd hsw
end
def yY(t:Bool)(ds:List D):D:=if t then .tup ds else .lst ds
section
variable {X:Cx}{ρ:fm}{e a b tg:Expr}{d:D}{ds:List D}{pos p:Pos}{t:Bool}
theorem HM(t:Bool)(ds:List D):wZ (yY t ds) ds:=by cases t <;> rfl
theorem aw.lenS(hg:Gl X "len")(hm:X.mg "len"=none)(h:aw X ρ e (yY t ds))(he:au [e] X.env= [(false,eval e X.env)]:=by rfl):aw X ρ (.Call (.Name "len" p) [e] [] pos) (.int ds.length):=aw.len hg hm h.r (HM t ds) he
theorem eJ.listS(hg:Gl X "list")(hm:X.mg "list"=none)(h:aw X ρ e (yY t ds))(he:au [e] X.env= [(false,eval e X.env)]:=by rfl):eJ X ρ (.Call (.Name "list" p) [e] [] pos) ds:=eJ.list hg hm (by decide +kernel) h.r (HM t ds) he
theorem aw.tupleS(hg:Gl X "tuple")(hm:X.mg "tuple"=none)(h:aw X ρ e (yY t ds))(he:au [e] X.env= [(false,eval e X.env)]:=by rfl):aw X ρ (.Call (.Name "tuple" p) [e] [] pos) (.tup ds):=aw.tuple hg hm (by decide +kernel) h.r (HM t ds) he
theorem aw.ixS{k:Int}(ha:aw X ρ a (yY t ds))(hb:aw X ρ b (.int k))(hk:wg ds k=some d)(hs:qR b:=by intro _ _; rfl):aw X ρ (.Subscript a b pos) d:=by
 cases t with
 | true=>exact aw.ixT ha hb hk hs
 | false=>exact aw.ixL ha.r hb hk hs
theorem lE.seq(h:aw X ρ e (yY t ds)):lE X ρ tg e ds:=by
 cases t with
 | true=>exact lE.tup h
 | false=>exact lE.list h
end
theorem xu{scope:Scope}{env:Env}(h: ∀y∈scope.names,y.2≠ .free):(qx scope env).names=scope.names:=by
 unfold qx
 dsimp only
 have: ∀l:List (Str×kg),(∀y∈l,y.2≠ .free)->(l.map fun(n,k)=>if(k==Ap&&env.scope.kind== .function&&env.kindOf n==some .cell)then(n,NameKind.cell)else(n,k))=l:=by
  intro l
  induction l with
  | nil=>intro _; rfl
  | cons y l ih=>
   intro hl
   obtain⟨n,k⟩:=y
   rw [bx,ih fun z hz=>hl z (.tail _ hz)]
   have hk:(k==Ap)=false:=by
    have:=hl (n,k) (.head _)
    cases k <;> first | rfl | exact absurd rfl this
   simp [hk]
 exact this _ h
theorem eY.closed{X:Cx}{scope:Scope}{x:Str}(hf: ∀y∈scope.names,y.2≠ .free)(hc: ∀y∈scope.names,y.2≠ .cell)(hk:scope.kind= .function)(hn: ∀y∈scope.names,y.2= .local->scope.names.lookup y.1=some .local)(ho:scope.names.lookup x=some .local):
  eY X [x] [] scope x [] where
 Di:=closureFor_none hf
 cell:=hc
 kind:=hk
 names:=hn
 own:=ho
 hN:=⟨[],rfl,rfl,fun i y j h=>by simp at h⟩
 sub:=fun y c h=>by simp at h
 has:=fun y h=>by
  rw [xu hf]at h
  rcases h with h | h
  ·exact absurd rfl (hc _ (cQ h))
  ·exact absurd rfl (hf _ (cQ h))
theorem xq{ρ:fm}:zx ρ [] []:=⟨rfl,fun k j c h=>by simp at h⟩
theorem lE.to{X:Cx}{ρ:fm}{tg e:Expr}{ds ds':List D}(h:lE X ρ tg e ds)(q:ds=ds'):lE X ρ tg e ds':=q▸h
section
variable {X:Cx}{ρ:fm}{x:Str}{d:D}{ds:List D}{pos:Pos}
theorem gV{i:Nat}{ρ:fm}(h:Nat.ble (i+1) ρ.length=true):i < ρ.length:=jR h
theorem nm(i:Nat)(hN:X.N[i]? =some x)(hρ:ρ[i]? =some (.im d))(hv:y7 X.env.scope x:=by first | exact Or.inl rfl | exact Or.inr (Or.inl rfl) | exact Or.inr (Or.inr rfl))(hd:(x==("__debug__":Str))=false:=by decide)(hcd:(x==("__classdict__":Str))=false:=by decide):aw X ρ (.Name x pos) d:=aw.name i hN hv hρ hd hcd
theorem CB(i:Nat)(hN:X.N[i]? =some x)(hρ:ρ[i]? =some (.mu ds))(hv:y7 X.env.scope x:=by first | exact Or.inl rfl | exact Or.inr (Or.inl rfl) | exact Or.inr (Or.inr rfl))(hd:(x==("__debug__":Str))=false:=by decide)(hcd:(x==("__classdict__":Str))=false:=by decide):mZ X ρ (.Name x pos) (.lst ds):=mZ.name i hN hv hρ hd hcd
theorem kz{lo:Int}{n i:Nat}{d:D}(h:(lF lo n)[i]? =some d):d= .int (lo+(i:Int))/\i < n:=by
 unfold lF at h
 rw [aA]at h
 cases e:(bH n)[i]? with
 | none=>rw [e]at h; cases h
 | some j=>
  rw [e]at h
  obtain⟨h1,h2⟩:=aI.mp e
  rw [cg]at h1
  rw [IL]at h2
  subst h2
  exact⟨(aH h).symm,h1⟩
theorem iw{lo:Int}{n:Nat}:(lF lo n).length=n:=by unfold lF; rw [ae,cg]
end
end Z
namespace K
open PySem L2 Z
abbrev St:=L2.St
def top(i:Nat):Stmt:=PySem.Challenge.pw_cranefloor_k07_what_is_refused.main.body.getD i (.Pass ⟨0,0,0,0⟩)
abbrev wC:Stmt:=top 45
abbrev rS:Stmt:=top 49
abbrev wL:Stmt:=top 50
abbrev jr:Stmt:=top 51
abbrev nz:Stmt:=top 21
abbrev iI:Stmt:=top 22
abbrev mG:Stmt:=top 23
abbrev rJ:Stmt:=top 24
abbrev rq:Stmt:=top 25
abbrev o4:Stmt:=top 26
abbrev kA:Stmt:=top 32
abbrev AF:Stmt:=top 31
abbrev pQ:Stmt:=top 33
abbrev pP:Stmt:=top 30
abbrev lq:Stmt:=top 29
abbrev n_:Stmt:=top 28
abbrev uf:Stmt:=top 47
abbrev AQ:Stmt:=top 48
abbrev nB:Stmt:=top 53
abbrev we:Stmt:=top 55
abbrev jo:Stmt:=top 40
abbrev jL:Stmt:=top 39
abbrev oq:Stmt:=top 41
abbrev zy:Stmt:=top 42
abbrev ot:Stmt:=top 43
abbrev jI:Stmt:=top 36
abbrev iA:Stmt:=top 37
abbrev ky:Stmt:=top 38
abbrev pT:Stmt:=top 52
abbrev AO:Stmt:=top 54
structure Bn(mg:Str->Option Value):Prop where
 len:mg "len"=none
 range:mg "range"=none
 list:mg "list"=none
 tuple:mg "tuple"=none
 set:mg "set"=none
def NX(CX:gF):Prop:= ∀l H s e s',CX l H s E0 e s'->False
theorem aX{CX:gF}{X:Cx}(h:NX CX):Passes CX X E0:=fun _ _ H s e s' _ z=>(h _ H s e s' z).elim
def cellAt(ns:List Int)(k:Nat):Int:=ns.getD k 0
def pD(p:Int×Int):D:= .tup [.int p.1, .int p.2]
structure eG where
 st:Int
 ht:Int
 lf:Int
 jx:List (Int×Int)
def eG.d(f:eG):D:= .tup [.int f.st, .int f.ht, .int f.lf, .lst (f.jx.map pD)]
def gQ(ns:List Int)(first most:Nat):Nat->List (Int×Int)
 | 0=> []
 | k+1=>
  let p:=cellAt ns (first+1+k)
  if p % most=p / most % most then gQ ns first most k else gQ ns first most k ++ [(p % most,p / most % most)]
def uO(ns:List Int)(first most:Nat):eG:=
 let c:=cellAt ns first
 ⟨2+c % 3,1+c / 3 % 6,1+c / 18 % 3,gQ ns first most (c / 72 % 5).toNat⟩
theorem oj(ns:List Int)(first most:Nat): ∀k,(gQ ns first most k).length<=k
 | 0=>ay _
 | k+1=>by
  have:=oj ns first most k
  unfold gQ
  dsimp only
  split
  ·omega
  ·rw [ao,fz]; omega
section
variable {P:aq}{w:World}{K:Frag}{mg:Str->Option Value}{base:Heap}{CX:gF}
theorem Mq:bV ["script","k"] ["script","k"] (aE wC):=⟨rfl,rfl,rfl,by decide +kernel,rfl,by decide +kernel,by decide +kernel⟩
abbrev B5(P:aq)(w:World)(K:Frag)(mg:Str->Option Value)(base:Heap)(CX:gF):Prop:=
 nq P w K mg base CX 1 "_law_cell_at" (fun i:List Int×Nat=> [.lst (i.1.map .int), .int i.2]) (fun _=>True) (fun i=> .ok (.int (cellAt i.1 i.2)))
theorem I_{f:Addr}{fd:bj}(B:Bn mg)(F:lu K "_law_cell_at" "_law_cell_at" wC f fd)(hm:mg "_law_cell_at"=some (.ref f))(hb:Binds K fd ["script","k"] []):B5 P w K mg base CX:=by
 refine fD F Mq hm hb (fun i=>rfl) fun cdv A outer s H E i M0 hp hr=>⟨_,rfl, ?_⟩
 obtain⟨ns,k⟩:=i
 refine WS.cons (W1.ite (cU.cI .lt (aw.name 1 rfl (.inl rfl) rfl) (aw.lenL rfl B.len (aw.name 0 rfl (.inl rfl) rfl).r)) (fun h=> ?_) fun h=> ?_)
 ·have h':(k:Int) < ns.length:=by simpa using of_decide_eq_true h
  have hk:k < ns.length:=by omega
  refine WS.one (W1.ret (aw.ixL (aw.name 0 rfl (.inl rfl) rfl).r (aw.name 1 rfl (.inl rfl) rfl) (d:= .int (cellAt ns k)) ?_) rfl)
  rw [tq,rF rfl hk]
  show some (D.int ns[k])=some (D.int (ns.getD k 0))
  rw [aB,ah hk]
  rfl
 ·refine WS.nil (WS.one (W1.ret aw.int ?_))
  have h': ¬(k:Int) < ns.length:=by simpa using of_decide_eq_false h
  show D.int 0=D.int (ns.getD k 0)
  rw [aB,bt (by omega)]
  rfl
theorem Cp:bV ["script","first","most","cell","bans","k","pair","one","other"] ["script","first","most"] (aE rS):=⟨rfl,rfl,rfl,by decide +kernel,rfl,by decide +kernel,by decide +kernel⟩
abbrev AL(P:aq)(w:World)(K:Frag)(mg:Str->Option Value)(base:Heap)(CX:gF):Prop:=
 nq P w K mg base CX 2 "_law_floor" (fun i:List Int×Nat×Nat=> [.lst (i.1.map .int), .int i.2.1, .int i.2.2]) (fun i=>0 < i.2.2/\i.2.2 < 1000) (fun i=> .ok (uO i.1 i.2.1 i.2.2).d)
theorem Gb{f:Addr}{fd:bj}(nx:NX CX)(B:Bn mg)(G1:B5 P w K mg base CX)(F:lu K "_law_floor" "_law_floor" rS f fd)(hm:mg "_law_floor"=some (.ref f))(hb:Binds K fd ["script","first","most"] []):AL P w K mg base CX:=by
 refine fD F Cp hm hb (fun i=>rfl) fun cdv A outer s H E i M0 hp hr=>⟨_,rfl, ?_⟩
 obtain⟨ns,first,most⟩:=i
 obtain⟨hp1,hp2⟩:0 < most/\most < 1000:=hp
 have px:=Cp.nd
 refine WS.cons (W1.set (i:=3) px rfl (.inl rfl) (gV rfl) (aw.call G1 hr (aX nx) rfl (ns,first) (aY.cons (nm 0 rfl rfl) (aY.cons (nm 1 rfl rfl) aY.nil)) trivial rfl) ?_)
 refine WS.cons (W1.setF (i:=4) px rfl (.inl rfl) (gV rfl) (eJ.lst aY.nil) ?_)
 refine WS.cons (W1.for (ds:=lF 0 (cellAt ns first / 72 % 5).toNat) (fun i ρ=> ∃a b c d,ρ= [.im (.lst (ns.map .int)), .im (.int first), .im (.int most), .im (.int (cellAt ns first)), .mu ((gQ ns first most i).map pD),a,b,c,d]) cF rfl
  (lE.range rfl B.range (aw.mod (aw.fdiv (nm 3 rfl rfl) aw.int ⟨by decide,by decide⟩) aw.int (by decide)) (by omega)) ⟨_,_,_,_,rfl⟩ ?_ ?_)
 ·rintro i d ρ hd ⟨a,b,c,d',rfl⟩
  obtain⟨rfl,hi⟩:=kz hd
  have hlen:=oj ns first most i
  refine⟨_,Cd.name (i:=5) px rfl (.inl rfl) (gV rfl), ?_⟩
  have e1:(first:Int)+1+(0+(i:Int))=((first+1+i:Nat):Int):=by omega
  refine WS.cons (W1.set (i:=6) px rfl (.inl rfl) (gV rfl) (aw.call G1 hr (aX nx) rfl (ns,first+1+i) (aY.cons (nm 0 rfl rfl) (aY.cons ((aw.add (aw.add (nm 1 rfl rfl) aw.int) (nm 5 rfl rfl)).to (by rw [e1])) aY.nil)) trivial rfl) ?_)
  refine WS.cons (W1.set (i:=7) px rfl (.inl rfl) (gV rfl) (aw.mod (nm 6 rfl rfl) (nm 2 rfl rfl) (by omega)) ?_)
  refine WS.cons (W1.set (i:=8) px rfl (.inl rfl) (gV rfl) (aw.mod (aw.fdiv (nm 6 rfl rfl) (nm 2 rfl rfl) ⟨by omega,by omega⟩) (nm 2 rfl rfl) (by omega)) ?_)
  refine WS.one (W1.ite (cU.cI .ne (nm 7 rfl rfl) (nm 8 rfl rfl)) (fun h=> ?_) fun h=> ?_)
  ·refine WS.one (W1.append (i:=4) rfl (.inl rfl) rfl (aw.tup (aY.cons (nm 7 rfl rfl) (aY.cons (nm 8 rfl rfl) aY.nil))) (by rw [ae]; omega) ?_ ⟨rfl,rfl,rfl,rfl⟩)
   have hne: ¬cellAt ns (first+1+i) % most=cellAt ns (first+1+i) / most % most:=by simpa using h
   have hB:gQ ns first most (i+1)=gQ ns first most i ++ [(cellAt ns (first+1+i) % most,cellAt ns (first+1+i) / most % most)]:=by
    rw [gQ]; exact if_neg hne
   dsimp only
   rw [hB,bC]
   exact⟨_,_,_,_,rfl⟩
  ·have he:cellAt ns (first+1+i) % most=cellAt ns (first+1+i) / most % most:=by simpa using h
   have hB:gQ ns first most (i+1)=gQ ns first most i:=by
    rw [gQ]; exact if_pos he
   refine WS.nil ?_
   dsimp only
   rw [hB]
   exact⟨_,_,_,_,rfl⟩
 ·rintro ρ ⟨a,b,c,d,rfl⟩
  rw [iw]
  refine WS.freeze (i:=4) rfl (WS.one (W1.ret (aw.tup (aY.cons (aw.add aw.int (aw.mod (nm 3 rfl rfl) aw.int (by decide))) (aY.cons (aw.add aw.int (aw.mod (aw.fdiv (nm 3 rfl rfl) aw.int ⟨by decide,by decide⟩) aw.int (by decide)))
   (aY.cons (aw.add aw.int (aw.mod (aw.fdiv (nm 3 rfl rfl) aw.int ⟨by decide,by decide⟩) aw.int (by decide))) (aY.cons (nm 4 rfl rfl) aY.nil))))) rfl))
def xy(f:eG)(r:List Int)(k:Nat):Bool:=(decide (0<=r.getD k 0)&&decide (r.getD k 0<=9))&& !(decide (0 < k)&&decide ((r.getD k 0,r.getD (k - 1) 0)∈f.jx))
def jM(f:eG)(r:List Int):Bool:=decide ((r.length:Int)<=f.ht)&&(bH r.length).all (xy f r)
def good(f:eG)(rows:List (List Int)):Bool:=(decide ((rows.length:Int)=f.st)&&decide rows.flatten.Nodup)&&rows.all (jM f)
theorem uS{k:Nat}{A:bA}(hr:fI k A):A.units+65 < cLine:=by have:=hr.un; omega
theorem uh{r:List Int}{k:Nat}{z:Int}(h:k < r.length)(e:z=(k:Int)):wg (r.map D.int) z=some (.int (r.getD k 0)):=by
 rw [tq,rF e h,aB,ah h]
 rfl
theorem rE(p:Int×Int)(bs:List (Int×Int)):inD (pD p) (bs.map pD)=decide (p∈bs):=by
 induction bs with
 | nil=>rfl
 | cons b bs ih=>
  show(D.eqv (pD b) (pD p) || inD (pD p) (bs.map pD))=_
  rw [ih]
  have e:D.eqv (pD b) (pD p)=decide (p=b):=by
   obtain⟨b1,b2⟩:=b
   obtain⟨p1,p2⟩:=p
   simp only [D.eqv,pD,D.pd,D.pds,jg,dU,gX]
   by_cases h:p1=b1/\p2=b2
   ·obtain⟨rfl,rfl⟩:=h; simp
   ·rw [decide_eq_false (by simpa using h)]
    simp only [jS,beq_eq_false_iff_ne]
    by_cases h1:p1=b1
    ·exact .inr fun z=>h ⟨h1,z.symm⟩
    ·exact .inl fun z=>h1 z.symm
  rw [e]
  by_cases h:p=b <;> simp [h]
theorem xH(n:Nat)(p:Int×Int):D.flat (n+1) (pD p):=by
 intro d hd
 rcases aO.mp hd with rfl | hd
 ·cases n <;> exact trivial
 ·rw [aN.mp hd]; cases n <;> exact trivial
theorem zi{n:Nat}{bs:List (Int×Int)}: ∀d∈bs.map pD,D.flat (n+1) d:=fun d hd=>by
 obtain⟨p,_,rfl⟩:=bh.mp hd
 exact xH n p
def bQ(t:Bool)(rows:List (List Int)):List D:=rows.map fun r=>yY t (r.map .int)
theorem Ik:bV ["floor","standing","crates","stack","k"] ["floor","standing"] (aE wL):=⟨rfl,rfl,rfl,by decide +kernel,rfl,by decide +kernel,by decide +kernel⟩
abbrev BR(P:aq)(w:World)(K:Frag)(mg:Str->Option Value)(base:Heap)(CX:gF):Prop:=
 nq P w K mg base CX 1 "_law_good" (fun i:eG×Bool×List (List Int)=> [i.1.d,yY i.2.1 (bQ i.2.1 i.2.2)]) (fun i=>i.2.2.flatten.length < 4000/\i.2.2.length < 4000) (fun i=> .ok (.bl (good i.1 i.2.2)))
theorem kZ{rows:List (List Int)}{r:List Int}(h:r∈rows):r.length<=rows.flatten.length:=by
 induction rows with
 | nil=>cases h
 | cons a rows ih=>
  rw [cJ,ao]
  rcases aO.mp h with rfl | h
  ·omega
  ·have:=ih h; omega
theorem mE{rows:List (List Int)}{i:Nat}{r:List Int}(h:rows[i]? =some r):(rows.take (i+1)).flatten=(rows.take i).flatten ++ r:=by
 rw [eX,h,q9]
 simp
theorem jJ(rows:List (List Int))(i:Nat):(rows.take i).flatten.length<=rows.flatten.length:=by
 have e:rows.flatten=(rows.take i).flatten ++ (rows.drop i).flatten:=by rw [<-q9,bb]
 rw [e,ao]; omega
theorem iQ{t:Bool}{rows:List (List Int)}{i:Nat}{d:D}(h:(bQ t rows)[i]? =some d): ∃r,rows[i]? =some r/\d=yY t (r.map .int):=by
 unfold bQ at h
 rw [aA]at h
 cases e:rows[i]? with
 | none=>rw [e]at h; cases h
 | some r=>rw [e]at h; exact⟨r,rfl,(aH h).symm⟩
theorem Ko{f:Addr}{fd:bj}(nx:NX CX)(B:Bn mg)(F:lu K "_law_good" "_law_good" wL f fd)(hm:mg "_law_good"=some (.ref f))(hb:Binds K fd ["floor","standing"] []):BR P w K mg base CX:=by
 refine fD F Ik hm hb (fun i=>rfl) fun cdv A outer s H E i M0 hp hr=>⟨_,rfl, ?_⟩
 obtain⟨fl,t,rows⟩:=i
 obtain⟨hp1,hp2⟩:rows.flatten.length < 4000/\rows.length < 4000:=hp
 have px:=Ik.nd
 have hlen:(bQ t rows).length=rows.length:=ae ..
 refine WS.cons (W1.setF (i:=2) px rfl (.inl rfl) (gV rfl) (eJ.lst aY.nil) ?_)
 refine WS.cons (W1.for (ds:=bQ t rows) (fun i ρ=> ∃a b,ρ= [.im fl.d, .im (yY t (bQ t rows)), .mu ((rows.take i).flatten.map .int),a,b]) cF rfl (lE.seq (nm 1 rfl rfl)) ⟨_,_,by rw [il]; rfl⟩ ?_ ?_)
 ·rintro i d ρ hd ⟨a,b,rfl⟩
  obtain⟨r,hr',rfl⟩:=iQ hd
  have l1:=jJ rows i
  have l2:=kZ (bg hr')
  refine⟨_,Cd.name (i:=3) px rfl (.inl rfl) (gV rfl), ?_⟩
  refine WS.one (W1.extend (i:=2) (fs:=r.map .int) rfl (.inl rfl) rfl (eJ.toD (eJ.listS rfl B.list (nm 3 rfl rfl))) rfl (by rw [ae,ae]; omega) ?_ ⟨rfl,rfl,rfl,rfl⟩)
  dsimp only
  rw [mE hr',bC]
  exact⟨_,_,rfl⟩
 rintro ρ ⟨a,b,rfl⟩
 rw [hlen,dP]
 refine WS.cons (W1.ite (ju.t (ju.or (cU.cI .ne (aw.lenS rfl B.len (nm 1 rfl rfl)) (aw.ixT (nm 0 rfl rfl) aw.int rfl)) fun _=>ju.or1 (cU.cI .lt (aw.lenSet rfl rfl B.len rfl B.set (CB 2 rfl rfl) hp1) (aw.lenL rfl B.len (CB 2 rfl rfl))))) (fun h=> ?_) fun h=> ?_)
 ·refine WS.one (W1.ret aw.bl ?_)
  rw [hlen,ae]at h
  have:good fl rows=false:=by
   unfold good
   by_cases h1:(rows.length:Int)=fl.st
   ·have h2: ¬rows.flatten.Nodup:=fun z=>by
     rw [decide_eq_true h1,fh,Bool.false_or,(HB _).mpr z]at h
     have:=of_decide_eq_true h
     omega
    rw [decide_eq_false h2,lX,fu]
   ·rw [decide_eq_false h1,fu,fu]
  show D.bl false=D.bl (good fl rows)
  rw [this]
 refine WS.nil ?_
 rw [hlen,ae,Bool.or_eq_false_iff]at h
 have g1:(rows.length:Int)=fl.st:=by simpa using h.1
 have g2:rows.flatten.Nodup:=(HB _).mp (by
  have h2:=of_decide_eq_false h.2
  have:=Nu rows.flatten
  omega)
 refine WS.cons (W1.for (ds:=bQ t rows) (fun i ρ=>(rows.take i).all (jM fl)=true/\ ∃a b,ρ= [.im fl.d, .im (yY t (bQ t rows)), .mu (rows.flatten.map .int),a,b]) cF rfl (lE.seq (nm 1 rfl rfl)) ⟨by rw [il]; rfl,_,_,rfl⟩ ?_ ?_)
 ·rintro i d ρ hd ⟨hall,a,b,rfl⟩
  obtain⟨r,hr',rfl⟩:=iQ hd
  have l2:=kZ (bg hr')
  have bad:jM fl r=false->good fl rows=false:=fun hf=>by
   unfold good
   have:rows.all (jM fl)=false:=by
    rw [IV]
    exact⟨r,bg hr',by rw [hf]; exact aF⟩
   rw [this,lX]
  refine⟨_,Cd.name (i:=3) px rfl (.inl rfl) (gV rfl), ?_⟩
  refine WS.cons (W1.ite (cU.cI .gt (aw.lenS rfl B.len (nm 3 rfl rfl)) (aw.ixT (nm 0 rfl rfl) aw.int rfl)) (fun h3=> ?_) fun h3=>WS.nil ?_)
  ·refine WS.one (W1.ret aw.bl ?_)
   have h4:=of_decide_eq_true h3
   rw [ae]at h4
   show D.bl false=D.bl (good fl rows)
   rw [bad (by unfold jM; rw [decide_eq_false (by omega),fu])]
  have h4:=of_decide_eq_false h3
  rw [ae]at h4
  refine WS.one (W1.for (ds:=lF 0 r.length) (fun j ρ=>(bH j).all (xy fl r)=true/\ ∃b,ρ= [.im fl.d, .im (yY t (bQ t rows)), .mu (rows.flatten.map .int), .im (yY t (r.map .int)),b]) cF rfl
   (lE.to (lE.range rfl B.range (aw.lenS rfl B.len (nm 3 rfl rfl)) (by rw [ae]; omega)) (by rw [ae]; rfl)) ⟨rfl,_,rfl⟩ ?_ ?_)
  ·rintro j d ρ hd2 ⟨hall2,b,rfl⟩
   obtain⟨rfl,hj⟩:=kz hd2
   refine⟨_,Cd.name (i:=4) px rfl (.inl rfl) (gV rfl), ?_⟩
   have z0:(0:Int)+(j:Int)=(j:Int):=by omega
   refine WS.one (W1.ite (ju.t (ju.or (cU.not (cU.chain .le .le aw.int (aw.ixS (nm 3 rfl rfl) (nm 4 rfl rfl) (uh hj z0)) aw.int)) fun _=>ju.or1 (ju.t (ju.and (cU.cI .gt (nm 4 rfl rfl) aw.int) fun hz=>ju.and1
    (cU.inL (da:=pD (r.getD j 0,r.getD (j - 1) 0)) (ds:=fl.jx.map pD) (uS hr) (aw.r (aw.tup (aY.cons (aw.ixS (nm 3 rfl rfl) (nm 4 rfl rfl) (uh hj z0)) (aY.cons (aw.ixS (nm 3 rfl rfl) (aw.sub (nm 4 rfl rfl) aw.int) (uh (k:=j - 1) (by omega) (by have:=of_decide_eq_true hz; omega))) aY.nil))))
     (aw.r (aw.ixT (nm 0 rfl rfl) aw.int rfl)) (xH 59 _) zi))))) (fun h5=> ?_) fun h5=> ?_)
   ·refine WS.one (W1.ret aw.bl ?_)
    show D.bl false=D.bl (good fl rows)
    rw [bad]
    unfold jM
    have:(bH r.length).all (xy fl r)=false:=by
     rw [IV]
     refine⟨j,gw.mpr hj, ?_⟩
     unfold xy
     rw [rE,z0]at h5
     simp only [Bool.or_eq_true,hJ,bJ,decide_eq_true_eq]at h5
     simp only [bJ,hJ,decide_eq_true_eq,jS,decide_eq_false_iff_not]
     rintro⟨⟨q1,q2⟩,q3⟩
     rcases h5 with h5 | ⟨h5,h6⟩
     ·rw [decide_eq_true q1,decide_eq_true q2]at h5; cases h5
     ·rcases q3 with q3 | q3
      ·exact q3 (by omega)
      ·exact q3 h6
    rw [this,lX]
   ·refine WS.nil ⟨?_,_,rfl⟩
    rw [ph,wq,hall2]
    rw [rE,z0]at h5
    show(xy fl r j&&true)=true
    rw [gX]
    unfold xy
    simp only [Bool.or_eq_false_iff,Bool.not_eq_false',jS,decide_eq_false_iff_not]at h5
    obtain⟨h5,h6⟩:=h5
    rw [h5,iU]
    simp only [hJ,jS,decide_eq_false_iff_not]
    rcases h6 with h6 | h6
    ·exact .inl fun z=>h6 (by omega)
    ·exact .inr h6
  ·rintro ρ ⟨hall2,b,rfl⟩
   rw [iw]at hall2
   refine⟨?_,_,_,rfl⟩
   rw [eX,hr',wq,hall]
   show(jM fl r&&true)=true
   rw [gX]
   unfold jM
   rw [hall2,decide_eq_true (by omega)]
   rfl
 ·rintro ρ ⟨hall,a,b,rfl⟩
  rw [hlen,dP]at hall
  refine WS.one (W1.ret aw.bl ?_)
  show D.bl true=D.bl (good fl rows)
  unfold good
  rw [hall,decide_eq_true g1,decide_eq_true g2]
  rfl
end
def h_(f:eG)(cell:Int)(st:List (List Int)×Option Int)(k:Nat):List (List Int)×Option Int:=
 match st.2 with
 | none=>st
 | some c=>
  let n:=((cell / 61+k) % f.st).toNat
  let wider:=st.1.set n (st.1.getD n [] ++ [c])
  if good f wider then(wider,none)else st
def place(f:eG)(cell:Int)(rows:List (List Int))(c:Int)(n:Nat):List (List Int)×Option Int:=(bH n).foldl (h_ f cell) (rows,some c)
def tZ(f:eG):Nat->Int->List (List Int)->List Int->List (List Int)
 | 0,_,rows,_=>rows
 | m+1,cell,rows,left=>
  let cell':=(cell * 48271+17) % 2147483647
  let i:=(cell' / 7 % left.length).toNat
  tZ f m cell' (place f cell' rows (left.getD i 0) f.st.toNat).1 (left.eraseIdx i)
def fA(f:eG)(cell:Int)(crates:List Int):List (List Int):=tZ f crates.length cell (ik f.st.toNat []) crates
def Ux:Option Int->D
 | none=> .non
 | some c=> .int c
theorem pV(f:eG)(cell:Int)(rows:List (List Int))(c:Int)(n:Nat):place f cell rows c (n+1)=h_ f cell (place f cell rows c n) n:=by
 unfold place
 rw [ph,List.foldl_append]
 rfl
theorem qI{rows:List (List Int)}{n:Nat}{r:List Int}{k:Nat}(h:r.length<=(rows.getD n []).length+k):(rows.set n r).flatten.length<=rows.flatten.length+k:=by
 induction rows generalizing n with
 | nil=>simp
 | cons a rows ih=>
  cases n with
  | zero=>
   rw [List.set_cons_zero,cJ,cJ,ao,ao]
   have:(List.getD (a::rows) 0 []).length=a.length:=rfl
   omega
  | succ n=>
   rw [IM,cJ,cJ,ao,ao]
   have:=ih (n:=n) (by simpa using h)
   omega
theorem vQ(f:eG)(cell:Int)(st:List (List Int)×Option Int)(k:Nat):(h_ f cell st k).1.length=st.1.length/\(h_ f cell st k).1.flatten.length+(if(h_ f cell st k).2.isSome then 1 else 0)<=st.1.flatten.length+(if st.2.isSome then 1 else 0):=by
 obtain⟨rows,oc⟩:=st
 cases oc with
 | none=>exact⟨rfl,ay _⟩
 | some c=>
  unfold h_
  dsimp only
  split
  ·refine⟨bL .., ?_⟩
   have:=qI (rows:=rows) (n:=((cell / 61+k) % f.st).toNat) (r:=rows.getD ((cell / 61+k) % f.st).toNat [] ++ [c]) (k:=1) (by rw [ao]; exact ay _)
   simpa using this
  ·exact⟨rfl,ay _⟩
theorem place_len(f:eG)(cell:Int)(rows:List (List Int))(c:Int): ∀n,(place f cell rows c n).1.length=rows.length/\(place f cell rows c n).1.flatten.length+(if(place f cell rows c n).2.isSome then 1 else 0)<=rows.flatten.length+1
 | 0=>⟨rfl,ay _⟩
 | n+1=>by
  obtain⟨a,b⟩:=place_len f cell rows c n
  obtain⟨a',b'⟩:=vQ f cell (place f cell rows c n) n
  rw [pV]
  exact⟨a'.trans a,bE b' b⟩
theorem w8{α β:Type}(g:α->β): ∀(l:List α) (n:Nat),(l.map g).eraseIdx n=(l.eraseIdx n).map g
 | [],_=>rfl
 | _::_,0=>rfl
 | a::l,n+1=>by rw [bx,List.eraseIdx_cons_succ,List.eraseIdx_cons_succ,bx,w8 g l n]
def KO(i:Nat)(ρ:fm):Nat:=match ρ[i]? with
 | some (Sl.mu ds)=>ds.length
 | _=>0
theorem Dw{t:Bool}{rows:List (List Int)}{n:Nat}{r:List Int}:bQ t (rows.set n r)=(bQ t rows).set n (yY t (r.map .int)):=by
 unfold bQ
 rw [List.map_set]
theorem mi{t:Bool}{rows:List (List Int)}:(bQ t rows).length=rows.length:=ae ..
theorem BY(ns:List Int):D.eqv (.lst (ns.map .int)) (.lst [])=decide (ns= []):=by cases ns <;> rfl
theorem Dk{n:Nat}{ns:List Int}:D.flat (n+1) (.lst (ns.map .int)):=fun d hd=>by
 obtain⟨i,_,rfl⟩:=bh.mp hd
 cases n <;> exact trivial
section
variable {P:aq}{w:World}{K:Frag}{mg:Str->Option Value}{base:Heap}{CX:gF}
theorem uR:bV ["floor","cell","crates","rows","left","crate","k","spot","wider"] ["floor","cell","crates"] (aE jr):=⟨rfl,rfl,rfl,by decide +kernel,rfl,by decide +kernel,by decide +kernel⟩
abbrev rj(P:aq)(w:World)(K:Frag)(mg:Str->Option Value)(base:Heap)(CX:gF):Prop:=
 nq P w K mg base CX 2 "_law_standing" (fun i:eG×Int×List Int=> [i.1.d, .int i.2.1, .lst (i.2.2.map .int)]) (fun i=>2<=i.1.st/\i.1.st<=4/\i.2.2.length<=100) (fun i=> .ok (.tup (bQ true (fA i.1 i.2.1 i.2.2))))
theorem zI{f:Addr}{fd:bj}(nx:NX CX)(B:Bn mg)(G1:BR P w K mg base CX)(F:lu K "_law_standing" "_law_standing" jr f fd)(hm:mg "_law_standing"=some (.ref f))(hb:Binds K fd ["floor","cell","crates"] []):rj P w K mg base CX:=by
 refine fD F uR hm hb (fun i=>rfl) fun cdv A outer s H E i M0 hp hr=>⟨_,rfl, ?_⟩
 obtain⟨fl,cell0,crates⟩:=i
 obtain⟨hp1,hp2,hp3⟩:2<=fl.st/\fl.st<=4/\crates.length<=100:=hp
 have px:=uR.nd
 change WS _ M0 H (aP jr) [.im fl.d, .im (.int cell0), .im (.lst (crates.map .int)), .un, .un, .un, .un, .un, .un] {N:=fun _=>D.tup (bQ true (fA fl cell0 crates))= .non,R:=fun d'=>d'= .tup (bQ true (fA fl cell0 crates))}
 refine WS.cons (W1.comp (i:=3) (es:=bQ false (ik fl.st.toNat [])) (cs:= []) (eY.closed (by decide +kernel) (by decide +kernel) rfl (by decide +kernel) rfl) rfl (by decide +kernel) (lE.range rfl B.range (aw.ixT (nm 0 rfl rfl) aw.int rfl) (by omega)) xq (by rw [iw,mi,jQ]) (by rw [iw]; omega) ?_ px rfl rfl (gV rfl) ?_)
 ·intro C s₀ H₀ fp pins i d e h1 h2
  obtain⟨r,hr',rfl⟩:=iQ h2
  have:r= []:=by
   rw [AA]at hr'
   split at hr'
   ·exact(aH hr').symm
   ·cases hr'
  subst this
  exact eJ.toD (eJ.lst aY.nil)
 refine WS.freeze (i:=3) rfl ?_
 refine WS.cons (W1.setF (i:=4) px rfl (.inl rfl) (gV rfl) (eJ.listL rfl B.list (aw.r (nm 2 rfl rfl))) ?_)
 refine WS.cons (W1.while (fun ρ=> ∃cell rows left a b c d,ρ= [.im fl.d, .im (.int cell), .im (.lst (crates.map .int)), .im (.lst (bQ false rows)), .mu (left.map .int),a,b,c,d]/\(rows.length:Int)=fl.st/\rows.flatten.length+left.length<=100/\tZ fl left.length cell rows left=fA fl cell0 crates)
  (KO 4) cF ⟨cell0,ik fl.st.toNat [],crates,_,_,_,_,rfl,by rw [jQ]; omega,by simpa using hp3,rfl⟩ ?_)
 rintro ρ ⟨cell,rows,left,a,b,c,d,rfl,hl,hsz,hrun⟩
 refine⟨_,cU.ne (IW (uS hr)) (CB 4 rfl rfl) (aw.r (eJ.toD (eJ.lst aY.nil))) Dk (fun _ h=>by cases h),fun h=> ?_,fun h=> ?_⟩
 ·rw [BY]at h
  have hne:left≠ []:=by simpa using h
  obtain⟨m,hm⟩: ∃m,left.length=m+1:=⟨left.length - 1,by have:=List.length_pos_iff.mpr hne; omega⟩
  rw [hm]at hrun
  refine WS.cons (W1.set (i:=1) px rfl (.inl rfl) (gV rfl) (aw.mod (aw.add (aw.mul (nm 1 rfl rfl) aw.int (.inr ⟨by decide,by decide⟩)) aw.int) aw.int (by decide)) ?_)
  generalize hc:(cell * 48271+17) % 2147483647=cell'
  have hi0:0<=cell' / 7 % (left.length:Int):=iX _ (by omega)
  have hi1:cell' / 7 % (left.length:Int) < left.length:=gN _ (by omega)
  generalize hix:(cell' / 7 % (left.length:Int)).toNat=ix
  have hlt:ix < left.length:=by omega
  refine WS.cons (W1.popAt (i:=4) (j:=5) (n:=ix) (d:= .int (left.getD ix 0)) px rfl (.inl rfl) rfl rfl (.inl rfl) (gV rfl) (by decide) (aw.mod (aw.fdiv (nm 1 rfl rfl) aw.int ⟨by decide,by decide⟩) (aw.lenL rfl B.len (CB 4 rfl rfl)) (by rw [ae]; omega)) (by rw [ae]; omega)
   (by rw [aA,ah hlt,aB,ah hlt]; rfl) (by omega) ?_ ⟨rfl,rfl,rfl,rfl⟩)
  have heras:(left.map D.int).eraseIdx ix=(left.eraseIdx ix).map D.int:=w8 ..
  rw [heras]
  have hlen2:(left.eraseIdx ix).length+1=left.length:=by rw [List.length_eraseIdx_of_lt hlt]; omega
  refine WS.one (W1.for (ds:=lF 0 fl.st.toNat) (fun j ρ=> ∃x y z,ρ= [.im fl.d, .im (.int cell'), .im (.lst (crates.map .int)), .im (.lst (bQ false (place fl cell' rows (left.getD ix 0) j).1)), .mu ((left.eraseIdx ix).map .int), .im (Ux (place fl cell' rows (left.getD ix 0) j).2),x,y,z]) cF rfl
   (lE.range rfl B.range (aw.ixT (nm 0 rfl rfl) aw.int rfl) (by omega)) ⟨_,_,_,rfl⟩ ?_ ?_)
  ·rintro j d ρ hd ⟨x,y,z,rfl⟩
   obtain⟨rfl,hj⟩:=kz hd
   obtain⟨pl1,pl2⟩:=place_len fl cell' rows (left.getD ix 0) j
   rw [pV]
   generalize place fl cell' rows (left.getD ix 0) j=st at pl1 pl2
   obtain⟨rw1,oc⟩:=st
   dsimp only at pl1 pl2 ⊢
   refine⟨_,Cd.name (i:=6) px rfl (.inl rfl) (gV rfl), ?_⟩
   have s0:0<=(cell' / 61+(0+(j:Int))) % fl.st:=iX _ (by omega)
   have s1:(cell' / 61+(0+(j:Int))) % fl.st < fl.st:=gN _ (by omega)
   refine WS.cons (W1.set (i:=7) px rfl (.inl rfl) (gV rfl) (aw.mod (aw.add (aw.fdiv (nm 1 rfl rfl) aw.int ⟨by decide,by decide⟩) (nm 6 rfl rfl)) (aw.ixT (nm 0 rfl rfl) aw.int rfl) (by omega)) ?_)
   have z0:(0:Int)+(j:Int)=(j:Int):=by omega
   rw [z0]at s0 s1 ⊢
   cases oc with
   | none=>exact WS.one (W1.ite (cU.notN (aw.r (nm 5 rfl rfl))) (fun h=>by cases h) fun h=>WS.nil ⟨_,_,_,rfl⟩)
   | some c=>
    refine WS.one (W1.ite (cU.notN (aw.r (nm 5 rfl rfl))) (fun _=> ?_) fun h=>by cases h)
    have s2:((cell' / 61+(j:Int)) % fl.st).toNat < rw1.length:=by omega
    have s3:(cell' / 61+(j:Int)) % fl.st=(((cell' / 61+(j:Int)) % fl.st).toNat:Int):=by omega
    unfold h_
    dsimp only
    generalize ((cell' / 61+(j:Int)) % fl.st).toNat=sp at s2 s3
    have rl:=kZ (rows:=rw1) (r:=rw1.getD sp []) (by rw [aB,ah s2]; exact a_ s2)
    have fl2:rw1.flatten.length+1<=rows.flatten.length+1:=by simpa using pl2
    refine WS.cons (W1.setF (i:=8) px rfl (.inl rfl) (gV rfl) (eJ.listL rfl B.list (aw.r (nm 3 rfl rfl))) ?_)
    refine WS.cons (W1.setIx (i:=8) (n:=sp) rfl (.inl rfl) rfl (eJ.toD (eJ.cat (ds:=(rw1.getD sp []).map .int) (aw.r (aw.ixL (aw.r (nm 3 rfl rfl)) (nm 7 rfl rfl) (by
      unfold bQ
      rw [tq,rF s3 s2,aB,ah s2]
      rfl))) (aw.r (eJ.toD (eJ.lst (aY.cons (nm 5 rfl rfl) aY.nil)))) (by rw [ae,fz]; omega))) (nm 7 rfl rfl) s3 (by rw [mi]; exact s2) ?_)
    have hset:(bQ false rw1).set sp (.lst ((rw1.getD sp []).map .int ++ [D.int c]))=bQ false (rw1.set sp (rw1.getD sp [] ++ [c])):=by
     rw [Dw,bC]; rfl
    have hset':((bQ false rw1).set sp (.lst ((rw1.getD sp []).map .int ++ [Ux (some c)])))=bQ false (rw1.set sp (rw1.getD sp [] ++ [c])):=hset
    rw [hset']
    have fl3:=qI (rows:=rw1) (n:=sp) (r:=rw1.getD sp [] ++ [c]) (k:=1) (by rw [ao]; exact ay _)
    have q1:(rw1.set sp (rw1.getD sp [] ++ [c])).flatten.length < 4000:=by omega
    have q2:(rw1.set sp (rw1.getD sp [] ++ [c])).length < 4000:=by rw [bL]; omega
    refine WS.one (W1.ite (cU.val (aw.callR G1 hr (aX nx) rfl (fl,false,rw1.set sp (rw1.getD sp [] ++ [c])) (vM.cons (aw.r (nm 0 rfl rfl)) (vM.one (CB 8 rfl rfl))) ⟨q1,q2⟩ rfl trivial)) (fun hg=> ?_) fun hg=> ?_)
    ·refine WS.freeze (i:=8) rfl (WS.cons (W1.set (i:=3) px rfl (.inl rfl) (gV rfl) (nm 8 rfl rfl) ?_))
     refine WS.one (W1.set (i:=5) px rfl (.inl rfl) (gV rfl) aw.non ?_)
     rw [if_pos hg]
     exact⟨_,_,_,rfl⟩
    ·refine WS.nil ?_
     have hg': ¬good fl (rw1.set sp (rw1.getD sp [] ++ [c]))=true:=by rw [show good fl (rw1.set sp (rw1.getD sp [] ++ [c]))=false from hg]; exact aF
     dsimp only
     rw [if_neg hg']
     exact⟨_,_,_,rfl⟩
  ·rintro ρ ⟨x,y,z,rfl⟩
   rw [iw]
   obtain⟨pl1,pl2⟩:=place_len fl cell' rows (left.getD ix 0) fl.st.toNat
   refine⟨⟨cell',(place fl cell' rows (left.getD ix 0) fl.st.toNat).1,left.eraseIdx ix,_,_,_,_,rfl,by rw [pl1]; exact hl,by omega, ?_⟩, ?_⟩
   ·rw [<-hrun]
    have:(left.eraseIdx ix).length=m:=by omega
    rw [this]
    show _=tZ fl m ((cell * 48271+17) % 2147483647) (place fl ((cell * 48271+17) % 2147483647) rows (left.getD ((cell * 48271+17) % 2147483647 / 7 % left.length).toNat 0) fl.st.toNat).1 (left.eraseIdx ((cell * 48271+17) % 2147483647 / 7 % left.length).toNat)
    rw [hc,hix]
   ·show((left.eraseIdx ix).map D.int).length < (left.map D.int).length
    rw [ae,ae]
    omega
 ·rw [BY]at h
  have hnil:left= []:=by simpa using h
  subst hnil
  have e:rows=fA fl cell0 crates:=hrun
  subst e
  refine WS.one (W1.ret (aw.tupleL rfl B.tuple (aw.r (eJ.toD (eJ.comp (es:=bQ true (fA fl cell0 crates)) (cs:= []) (eY.closed (by decide +kernel) (by decide +kernel) rfl (by decide +kernel) rfl) rfl (by decide +kernel) (lE.list (nm 3 rfl rfl)) xq (by rw [mi,mi]) (by rw [mi]; omega) ?_)))) rfl)
  intro C s₀ H₀ fp pins i d e h1 h2
  obtain⟨r,hr1,rfl⟩:=iQ h1
  obtain⟨r2,hr2,rfl⟩:=iQ h2
  rw [hr1]at hr2
  cases hr2
  exact aw.tupleS (t:=false) rfl B.tuple (nm 0 rfl rfl)
end
end K
namespace Z
open PySem PySem.Spec PyProof.Rows L2
section
variable {X:Cx}{ρ:fm}{M0:MP}{H0:Hp}{P:qD}{e a b:Expr}{d:D}{ds:List D}{pos p:Pos}
theorem zt{K:Frag}{M:MP}{H:Hp}{bs:List Bool}{xs:List V}{its:List Value}(h:cN K M H (bs.map .bl) xs)(r:Vals xs its):its=bs.map fS:=by
 induction bs generalizing xs its with
 | nil=>cases (show xs= []from h); cases r; rfl
 | cons b bs ih=>
  obtain⟨v,t,rfl,h1,h2⟩:=h
  cases r with
  | cons r1 r2=>
   cases (show v= .bl b from h1)
   rw [bx,ih h2 r2,show _=fS b from r1]
theorem sr(bs:List Bool)(tr:Nat->Bool)(h: ∀i b,bs[i]? =some b->tr i=b):(bH bs.length).all tr=bs.all id/\(bH bs.length).any tr=bs.any id:=by
 have e:(bH bs.length).map tr=bs:=by
  apply eV
  intro i
  rw [aA]
  by_cases hi:i < bs.length
  ·rw [q8 hi,ah hi]
   exact congrArg some (h i _ (ah hi))
  ·rw [bt (by rw [cg]; omega),bt (by omega)]
   rfl
 constructor
 ·rw [<-e,List.all_map,e]; rfl
 ·rw [<-e,List.any_map,e]; rfl
theorem sk{A:bA}(bs:List Bool):TruthOf X.prog X.w A (fun i v=>(bs.map fS)[i]? =some v) (fun i=>bs.getD i false):=fun i v s Q E h k=>by
 dsimp only at h k
 rw [aA]at h
 cases e:bs[i]? with
 | none=>rw [e]at h; cases h
 | some b=>
  rw [e]at h
  cases h
  rw [aB,e]at k
  exact fJ k
theorem Dr(hc:X.calm=true):g7 X (.builtin "all") (fun xs H Q=> ∃(q:Addr) (M:MP) (bs:List Bool),xs= [.ref q]/\qM X.K M H (.lst (bs.map .bl)) (.ref q)/\Q (.bl (bs.all id)) H):=by
 intro pins s σ H xs us Q I r ⟨q,M,bs,e,hq,k⟩
 subst e
 obtain⟨u,rfl,rx⟩:=vals1 r
 cases rx
 obtain⟨q',ys,eq,sq,dn⟩:=hq
 cases eq
 obtain⟨its,r',pl,hz⟩:=I.list sq
 have hb:=zt dn r'
 subst hb
 have hlt:q < s.heap.objs.size:=by obtain⟨o,n,e,_⟩:=pl; exact av e
 refine call_all_walk (sR pl.isList ?_)
 refine⟨_,_,_,_,_,_,fun i=>bs.getD i false,rfl,Walks.list (by simp [I.ok.hd hc]) s.heap.objs.size q (aJ hlt) _,⟨⟨_,az _ rfl,rfl,rfl⟩,pl.isList.push _⟩, ?_,fun h' tk hk=> ?_⟩
 ·have:=sk (X:=X) (A:=X.A.in1) bs
  intro i v s Q E h
  exact this i v s Q E (by rw [pB]at h; exact h)
 ·refine⟨.bl (bs.all id),H,I.kept (t':=tk) (fun b o e=>hk b o (by intro z; rw [aN.mp z]at e; exact absurd (av e) (dz _)) (ag _ e)), ?_,k⟩
  show _=fS _
  rw [aC,ae,(sr bs _ fun i b h=>by rw [aB,h]; rfl).1]
theorem C5(hc:X.calm=true):g7 X (.builtin "any") (fun xs H Q=> ∃(q:Addr) (M:MP) (bs:List Bool),xs= [.ref q]/\qM X.K M H (.lst (bs.map .bl)) (.ref q)/\Q (.bl (bs.any id)) H):=by
 intro pins s σ H xs us Q I r ⟨q,M,bs,e,hq,k⟩
 subst e
 obtain⟨u,rfl,rx⟩:=vals1 r
 cases rx
 obtain⟨q',ys,eq,sq,dn⟩:=hq
 cases eq
 obtain⟨its,r',pl,hz⟩:=I.list sq
 have hb:=zt dn r'
 subst hb
 have hlt:q < s.heap.objs.size:=by obtain⟨o,n,e,_⟩:=pl; exact av e
 refine call_any_walk (sR pl.isList ?_)
 refine⟨_,_,_,_,_,_,fun i=>bs.getD i false,rfl,Walks.list (by simp [I.ok.hd hc]) s.heap.objs.size q (aJ hlt) _,⟨⟨_,az _ rfl,rfl,rfl⟩,pl.isList.push _⟩, ?_,fun h' tk hk=> ?_⟩
 ·have:=sk (X:=X) (A:=X.A.in1) bs
  intro i v s Q E h
  exact this i v s Q E (by rw [pB]at h; exact h)
 ·refine⟨.bl (bs.any id),H,I.kept (t':=tk) (fun b o e=>hk b o (by intro z; rw [aN.mp z]at e; exact absurd (av e) (dz _)) (ag _ e)), ?_,k⟩
  show _=fS _
  rw [aC,ae,(sr bs _ fun i b h=>by rw [aB,h]; rfl).2]
theorem aw.all{bs:List Bool}(hc:X.calm=true)(hg:Gl X "all")(hm:X.mg "all"=none)(h:mZ X ρ e (.lst (bs.map .bl)))(he:au [e] X.env= [(false,eval e X.env)]:=by rfl):aw X ρ (.Call (.Name "all" p) [e] [] pos) (.bl (bs.all id)):=
 aw.callB (Dr hc) hg hm (by decide +kernel) (vM.one h he) (fun M H vs Q dn k=>by
  obtain⟨v,r,rfl,e1,e2⟩:=dn
  cases e2
  obtain⟨q,xs,rfl,sq,z⟩:=id e1
  exact⟨q,M,bs,rfl,e1,k _ H (bT.refl _) rfl⟩) (he:=he)
theorem aw.any{bs:List Bool}(hc:X.calm=true)(hg:Gl X "any")(hm:X.mg "any"=none)(h:mZ X ρ e (.lst (bs.map .bl)))(he:au [e] X.env= [(false,eval e X.env)]:=by rfl):aw X ρ (.Call (.Name "any" p) [e] [] pos) (.bl (bs.any id)):=
 aw.callB (C5 hc) hg hm (by decide +kernel) (vM.one h he) (fun M H vs Q dn k=>by
  obtain⟨v,r,rfl,e1,e2⟩:=dn
  cases e2
  obtain⟨q,xs,rfl,sq,z⟩:=id e1
  exact⟨q,M,bs,rfl,e1,k _ H (bT.refl _) rfl⟩) (he:=he)
end
theorem FU(l b:Addr)(xs ys:Array Value)(n m:Nat)(dd de:Option Addr)(sl tl:Array (Option Value))(h0:xs.isEmpty=true):
  Meets (dF.«tuple.__add__» ⟨[.ref l, .ref b], []⟩) (fun _ R s=>s.heap.get? l=some {cls:= .type "tuple",dict:=dd,data:= .seq xs n,slots:=sl}/\s.heap.get? b=some {cls:= .type "tuple",dict:=de,data:= .seq ys m,slots:=tl}/\
   R (.ok (.ret (ak b))) {s with heap:=s.heap,toks:=s.toks}):=
 .of_wp fun prog w A R s h=>by
  obtain⟨hp,g,d,tk,os⟩:=s
  obtain⟨hl,hb,h⟩:=h
  have f2:=iS
  wp_walk using cC hl,cC hb
  exact⟨_,rfl,h⟩
theorem JY{prog:aq}{w:World}{A:bA}{E:Value->ai->Prop}{s:ai}{t sl:Addr}{items:Array Value}{vl vu:Value}{lo hi:Option Int}{Q:Value->ai->Prop}(ht:IsTup s.heap t items)(hs:s.heap.IsSliceOf sl vl vu .none)(pl:rY vl lo)(pu:rY vu hi)
  (hw:HT.iH items.size 0 lo=0/\HT.iH items.size items.size hi=items.size)(h:Q (.ref t) s):wpAny (model prog w) A (xm (.ref t) (.ref sl)) Q E s:=by
 obtain⟨os,hos,hcs,hds⟩:=id hs
 have hTs:s.TypeIs (.ref sl) "slice":=⟨os,hos,hcs⟩
 unfold xm
 try with_reducible refine bM ?_
 first | refine aa (af ?_) | skip
 refine aa (wpAny_sequenceKey ht.typeIs (by decide) ?_)
 refine aa (cZ (name:=iF "__getitem__") ht.typeIs eF
  (bS eF ht.typeIs entry_tuple_getitem ?_ (args_tuple_getitem _ _)))
 show wpAny _ _ (yy (.ref t) >>=_) _ _ s
 refine aa (tupleItemsOf_ ht ?_)
 refine aa (fL hTs ?_)
 rw [if_pos (by decide)]
 refine aa (HT.my hs pl pu ?_)
 have hyes:((((HT.iH items.size 0 lo:Nat):Int)==0&&(1:Int)==1&&(HT.iH items.size items.size hi - HT.iH items.size 0 lo)==items.size)=true):=by
  rw [hw.1,hw.2]; simp
 show wpAny _ _ (if(((HT.iH items.size 0 lo:Nat):Int)==0&&(1:Int)==1&&(HT.iH items.size items.size hi - HT.iH items.size 0 lo)==items.size)=true then _ else _) _ _ s
 rw [if_pos hyes]
 unfold Builtin.Tuple.tupleIsExact
 refine aa (aa (fL ht.typeIs (af ?_)))
 rw [if_pos (by decide)]
 exact aa (fw (af ⟨_,rfl,af h⟩))
section
variable {X:Cx}{ρ:fm}{e a b:Expr}{d:D}{ds:List D}{pos p p2:Pos}
def Nv(K:Frag):V->Option Int->Option Int->Hp->VK->Prop:=fun x lo hi H Q=> ∃a xs,x= .ref a/\kq K H a xs/\
 (HT.iH xs.length 0 lo=0/\HT.iH xs.length xs.length hi=xs.length->Q (.ref a) H)/\(¬(HT.iH xs.length 0 lo=0/\HT.iH xs.length xs.length hi=xs.length)-> ∀p,H p=none->Q (.ref p) (upd H p (.tup (A4 xs lo hi))))
theorem JR:O8 X (Nv X.K):=by
 intro pins s σ H x v vl vu lo hi sl Q I rx hs pl pu h
 obtain⟨a,xs,rfl,hx,q1,q2⟩:=h
 by_cases hw:HT.iH xs.length 0 lo=0/\HT.iH xs.length xs.length hi=xs.length
 ·cases rx
  obtain⟨its,r,ht,hz⟩:=I.tuple hx
  have hlen:its.toArray.size=xs.length:=by rw [aC]; exact r.length.symm
  refine⟨"tuple",_,eF.lookup,ht.typeIs, ?_⟩
  exact JY ht hs pl pu (by rw [hlen]; exact hw) ⟨.ref a,H,I,rfl,q1 hw⟩
 ·exact L8 pins s σ H (.ref a) v vl vu lo hi sl Q I rx hs pl pu ⟨a,xs,rfl,hx,hw,q2 hw⟩
def cutD(ds:List D)(lo hi:Option Int):List D:=(ds.drop (HT.iH ds.length 0 lo)).take (HT.iH ds.length ds.length hi - HT.iH ds.length 0 lo)
theorem cN.cut{K:Frag}{M:MP}{H:Hp}{xs:List V}{lo hi:Option Int}(h:cN K M H ds xs):cN K M H (cutD ds lo hi) (A4 xs lo hi):=by
 unfold cutD A4
 rw [h.len]
 exact(h.drop _).take _
theorem Gh{lo hi:Option Int}(h:HT.iH ds.length 0 lo=0/\HT.iH ds.length ds.length hi=ds.length):cutD ds lo hi=ds:=by
 unfold cutD
 rw [h.1,h.2,lY,BJ,dP]
def Ay(X:Cx)(ρ:fm)(e:Option Expr)(o:Option Int):Prop:=match e,o with
 | none,o=>o=none
 | some e,o=> ∃i,o=some i/\aw X ρ e (.int i)
theorem Ay.none:Ay X ρ none none:=rfl
theorem Ay.some{i:Int}(h:aw X ρ e (.int i)):Ay X ρ (some e) (some i):=⟨i,rfl,h⟩
theorem Ay.run{eo:Option Expr}{o:Option Int}(h:Ay X ρ eo o): ∃t,PO X eo t/\ ∀(M0:MP) (H0:Hp) (γ:List (D×V)) (α:Nat->Addr) (σ:St) (H:Hp) (Q:Option Int->Hp->Prop),Rep X.K M0 H0 γ α ρ σ H->(∀H',bT H H'->Q o H')->t σ H Q:=by
 cases eo with
 | none=>
  cases (show o=Option.none from h)
  exact⟨_,Kf,fun M0 H0 γ α σ H Q R k=>k H (bT.refl _)⟩
 | some e=>
  obtain⟨i,rfl,h⟩:=h
  exact⟨_,JK iu,fun M0 H0 γ α σ H Q R k=>h M0 H0 γ α σ H _ R fun v H1 s1 d1=>⟨i,d1,k H1 s1⟩⟩
theorem aw.cutT{lo hi:Option Expr}{l u:Option Int}(ha:aw X ρ a (.tup ds))(hl:Ay X ρ lo l)(hh:Ay X ρ hi u):aw X ρ (.Subscript a (.Slice lo hi none p2) pos) (.tup (cutD ds l u)):=by
 obtain⟨tl,l1,l2⟩:=hl.run
 obtain⟨th,h1,h2⟩:=hh.run
 intro M0 H0 γ α σ H Q R k
 refine(GU JR iu l1 h1).to (ha M0 H0 γ α σ H _ R fun v H1 s1 d1=>l2 M0 H0 γ α σ H1 _ (R.next s1) fun H2 s2=>h2 M0 H0 γ α σ H2 _ ((R.next s1).next s2) fun H3 s3=> ?_)
 obtain⟨q,xs,rfl,sq,dn⟩:=d1.same (s2.trans s3)
 refine⟨q,xs,rfl,sq,fun hw=> ?_,fun hw l hl=> ?_⟩
 ·rw [dn.len]at hw
  exact k _ H3 ((s1.trans s2).trans s3) ⟨q,xs,rfl,sq,by rw [Gh hw]; exact dn⟩
 ·exact k _ _ (((s1.trans s2).trans s3).trans (bG hl)) ⟨l,_,rfl,kq.of bO,dn.cut.same (bG hl)⟩
def Lx(K:Frag):R2:=fun x y H Q=> ∃a b xs ys,x= .ref a/\y= .ref b/\kq K H a xs/\kq K H b ys/\xs.length+ys.length<=sizeLine/\(xs= []->Q (.ref b) H)/\(xs≠ []->ys= []->Q (.ref a) H)/\(xs≠ []->ys≠ []-> ∀p,H p=none->Q (.ref p) (upd H p (.tup (xs ++ ys))))
theorem Gm:pA X (kf .Add) (Lx X.K):=by
 intro pins s σ H x y v u Q I rx ry h
 obtain⟨a,b,xs,ys,rfl,rfl,ha,hb,hz,q0,q1,q2⟩:=h
 by_cases hx:xs= []
 ·cases rx
  cases ry
  obtain⟨its,r1,⟨⟨cls,dd,data,sl⟩,ho,hc,n,hd⟩,_⟩:=I.tuple ha
  obtain⟨its2,r2,⟨⟨cls2,dd2,data2,sl2⟩,ho2,hc2,n2,hd2⟩,_⟩:=I.tuple hb
  simp only at hc hd hc2 hd2
  subst hc hd hc2 hd2
  have e:its= []:=r1.nil_iff.mpr hx
  exact BC ⟨_,ho,rfl⟩ ⟨_,ho2,rfl⟩ Kx seq_tuple_add BD AB (An _ _)
   (FU a b its.toArray its2.toArray n n2 dd dd2 sl sl2 (by simp [e])) ⟨ho,ho2,⟨.ref b,H,I,rfl,q0 hx⟩⟩
 ·exact Jh pins s σ H (.ref a) (.ref b) v u Q I rx ry ⟨a,b,xs,ys,rfl,rfl,ha,hb,hx,hz,q1 hx,q2 hx⟩
theorem cN.nil_iff{K:Frag}{M:MP}{H:Hp}{xs:List V}(h:cN K M H ds xs):xs= []->ds= []:=fun e=>by
 have:=h.len
 rw [e]at this
 exact nX.mp this.symm
theorem aw.catT{fs:List D}(ha:aw X ρ a (.tup ds))(hb:aw X ρ b (.tup fs))(hl:ds.length+fs.length<=1000000):aw X ρ (.BinOp a .Add b pos) (.tup (ds ++ fs)):=fun M0 H0 γ α σ H Q R k=>
 (GV Gm iu iu).to (ha M0 H0 γ α σ H _ R fun v H1 s1 d1=>hb M0 H0 γ α σ H1 _ (R.next s1) fun u H2 s2 d2=>by
  obtain⟨q,xs,rfl,sq,dn⟩:=d1.same s2
  obtain⟨q2,xs2,rfl,sq2,dn2⟩:=d2
  refine⟨q,q2,xs,xs2,rfl,rfl,sq,sq2,by rw [dn.len,dn2.len]; exact ke hl,fun e=> ?_,fun _ e=> ?_,fun _ _ l hl'=> ?_⟩
  ·exact k _ H2 (s1.trans s2) ⟨q2,xs2,rfl,sq2,by rw [dn.nil_iff e]; exact dn2⟩
  ·exact k _ H2 (s1.trans s2) ⟨q,xs,rfl,sq,by rw [dn2.nil_iff e,bq]; exact dn⟩
  ·exact k _ _ ((s1.trans s2).trans (bG hl')) ⟨l,_,rfl,kq.of bO,(cN.app dn dn2).same (bG hl')⟩)
end
end Z
namespace Tx
def ND{α:Type} [DecidableEq α](s:List α)(a:α):List α:=if a∈s then s else s ++ [a]
def uniq{α:Type} [DecidableEq α](l:List α):List α:=l.foldl ND []
end Tx
namespace Z
open PySem PySem.Spec PyProof.Rows L2
theorem Fi: ∀{xs:List V} {us:List Value},xs.length=us.length->(∀(i:Nat) (x:V) (u:Value),xs[i]? =some x->us[i]? =some u->RelV x u)->Vals xs us
 | [], [],_,_=> .nil
 | [],_::_,h,_=>by simp at h
 | _::_, [],h,_=>by simp at h
 | x::xs,u::us,h,k=> .cons (k 0 x u rfl rfl) (Fi (by simpa using h) fun i y v h1 h2=>k (i+1) y v (by simpa using h1) (by simpa using h2))
end Z
namespace Z
open PySem PySem.Spec PyProof.Rows L2
theorem Km{i:Int}:w9 "int" (.int i)=true:=by simp [w9,K2]
theorem HF{i:Int}:w9 "bool" (.int i)=false:=by simp [w9,K2]
theorem qE{ds:List D}:w9 "tuple" (.tup ds)=true:=by simp [w9,K2]
theorem FH{d:D}(h:D.flat 60 d):D.eqv d d=true:=by
 unfold D.eqv
 exact PySem.SeqAt.eqv_refl _ (mz 60 d h).1
section
variable {X:Cx}{ρ:fm}{e:Expr}{pos p p2 p3:Pos}
theorem za:g7 X (.type "range") (fun xs H Q=> ∃j:Int,xs= [.int j]/\ ∀l,H l=none->Q (.ref l) (upd H l (.rng 0 j))):=by
 intro pins s σ H xs us Q I r ⟨j,e,k⟩
 subst e
 obtain⟨u,rfl,t,rfl⟩:=vals1 r
 exact call_range_1 ⟨.ref s.heap.objs.size,_,I.laid (fun b o e=>ag _ e) (ay _) (o:= .rng 0 j) ⟨_,_,_,az _ rfl⟩,rfl,k _ I.fresh⟩
theorem xF(hc:X.calm=true):g7 X (.type "list") (fun xs H Q=> ∃(q:Addr) (hi:Int),xs= [.ref q]/\H q=some (.rng 0 hi)/\0<=hi/\hi<=100000/\
  ∀l,H l=none->Q (.ref l) (upd H l (.lst ((bH hi.toNat).map fun(i:Nat)=>V.int (0+(i:Int)))))):=by
 intro pins s σ H xs us Q I r ⟨q,hi,e,hq,h0,h1,k⟩
 subst e
 obtain⟨u,rfl,rx⟩:=vals1 r
 cases rx
 obtain⟨t,u',v',e⟩:=I.eI q _ hq
 refine call_list_range (a:=0) (b:=hi) (c:=1) (n:=hi.toNat) (I.ok.hd hc) (show IsRange s.heap q 0 hi 1 t u' v' from e) (small_one (by omega) (by omega) (by omega) (by omega)) (by rw [rangeSize_one]; split <;> omega) (by omega) fun h' tk acc c' hk hS hacc=> ?_
 refine⟨.ref s.heap.objs.size,_,I.laid (t':=tk) hk (ay _) (o:= .lst ((bH hi.toNat).map fun(i:Nat)=>V.int (0+(i:Int)))) ⟨?_,acc.toList,c',Fi ?_ fun i x u hx hu=> ?_,by simpa using hS⟩,rfl,k _ I.fresh⟩
 ·rw [ae,cg]
  exact ke (by omega)
 ·rw [ae,cg,aj,hacc.1]
 ·rw [aA]at hx
  have hu':acc[i]? =some u:=by simpa using hu
  obtain⟨tk,rfl⟩:=hacc.2 i u hu'
  cases er:(bH hi.toNat)[i]? with
  | none=>rw [er]at hx; cases hx
  | some j=>
   rw [er]at hx
   obtain⟨_,h2⟩:=aI.mp er
   rw [IL]at h2
   subst h2
   cases hx
   exact⟨tk,by rw [Int.mul_one]⟩
theorem cN.rng{K:Frag}{M:MP}{H:Hp}(n:Nat):cN K M H (lF 0 n) ((bH n).map fun(i:Nat)=>V.int (0+(i:Int))):=by
 unfold lF
 generalize bH n=l
 induction l with
 | nil=>rfl
 | cons a l ih=>exact⟨_,_,rfl,rfl,ih⟩
theorem eJ.listRng{j:Int}(hc:X.calm=true)(hg:Gl X "list")(hm:X.mg "list"=none)(hg2:Gl X "range")(hm2:X.mg "range"=none)(h:aw X ρ e (.int j))(h0:0<=j)(h1:j<=100000)
  (he:au [e] X.env= [(false,eval e X.env)]:=by rfl)(he2:au [.Call (.Name "range" p2) [e] [] p3] X.env= [(false,eval (.Call (.Name "range" p2) [e] [] p3) X.env)]:=by rfl):eJ X ρ (.Call (.Name "list" p) [.Call (.Name "range" p2) [e] [] p3] [] pos) (lF 0 j.toNat):=fun M0 H0 γ α σ H Q R k=>
 (km (xF hc) hg hm (by decide +kernel) (eu (km za hg2 hm2 (by decide +kernel) (eu iu gZ he) (by decide) (by decide) he) gZ he2) (by decide) (by decide) he2).to (h M0 H0 γ α σ H _ R fun v H1 s1 d1=>by
  cases (show v= .int j from d1)
  exact⟨j,rfl,fun l hl'=>⟨l,j,rfl,bO,h0,h1,fun l2 hl2=>k l2 _ _ _ (s1.trans (bG hl')) hl2 (bG hl2) bO (cN.rng _)⟩⟩)
end
end Z
namespace Z
open PySem PySem.Spec PyProof.Rows L2
section
variable {P:aq}{w:World}{K:Frag}{mg:Str->Option Value}{base:Heap}{CX:gF}{k:Nat}{x qual:Str}{st:Stmt}{f:Addr}{fd:bj}{N ps:List Str}{ι:Type}{args:ι->List D}{pre:ι->Prop}{res:ι->Except Addr D}
theorem B3(F:lu K x qual st f fd)(S:bV N ps (aE st))(hl: ∀i,(args i).length=ps.length)
  (body: ∀(cdv:Value) (A:bA) (outer:List Env) (s:ai) (H:Hp) (E:XK) (i:ι) (M0:MP),pre i->fI k (A.deeper (kM qual (aE st) s.heap.objs.size f cdv))->
   ∃d,res i= .ok d/\WS (lC CX P w K mg base N qual (aE st) f cdv A outer s H E).nox M0 H (aP st) (sC N (args i)) {N:=fun _=>d= .non,R:=fun d'=>d'=d}):nS P w K mg base CX (k+1) f fd ps (mX K args pre res):=by
 obtain⟨oc,od,kV,doc,pm,an,cdv,ct,osl,rfl,lk,hcd⟩:=F.ex
 refine Ae lk hcd S (fun vs H Q E ⟨i,M0,_,h,_⟩=>by rw [h.len,hl]) fun A outer s H vs Q E hr hsp=> ?_
 obtain⟨i,M0,hM,h,hp,k1,k2⟩:=hsp
 obtain⟨d,hd,ws⟩:=body cdv A outer s H E i M0 hp hr
 refine⟨oM _ (aP st),(f_ (X:=(lC CX P w K mg base N qual (aE st) f cdv A outer s H E).nox)).nox, ?_⟩
 refine oM.mono (En:=ends K M0 H [] {N:=fun _=>d= .non,R:=fun d'=>d'=d}) (fun σ' H' ⟨α,ρ,R,e⟩=> ?_) (fun v H' ⟨d',e,sm,dn⟩=> ?_) (fun _ _ ⟨_,_,_,z⟩=>z.elim) (fun _ _ ⟨_,_,_,z⟩=>z.elim) (ws [] (fun _=>0) _ H (rep0 hM h))
 ·exact k1 d hd .non H' R.same (by rw [e]; exact rfl)
 ·subst e
  exact k1 _ hd v H' sm dn
end
abbrev CF(K:Frag):Sp:=mX K (fun ns:List Int=> [D.lst (ns.map .int)]) (fun ns=>ns.length<=63) (fun _=> .ok (.bl true))
end Z
namespace Z
open PySem PySem.Spec PyProof.Rows
def fE(t:cV):Nat->dA->dA
 | 0,p=>p
 | k+1,p=>fE t k (t.advance p)
theorem mB(t:cV): ∀(k l:Nat) (p:dA),fE t (k+l) p=fE t l (fE t k p)
 | 0,l,p=>by rw [BH]; rfl
 | k+1,l,p=>by rw [Nat.succ_add]; exact mB t k l (t.advance p)
theorem LY{t:cV}(hm:t.mask=7){p:dA}(h0:p.more=0):t.advance p={p with j:=(p.i * 5+1+p.perturb / 32) % 8,more:=0,i:=(p.i * 5+1+p.perturb / 32) % 8,perturb:=p.perturb / 32}:=by
 unfold SetTable.advance
 rw [h0,if_neg (by decide),hm]
 unfold SetTable.leap Ld
 dsimp only
 have: ¬((p.i * 5+1+p.perturb / 32) % (7+1)+9<=7):=by omega
 rw [if_neg this]
 simp
structure p0(p:dA):Prop where
 more:p.more=0
 ij:p.i=p.j
 lt:p.j < 8
 dm:p.dummy=none
theorem p0.adv{t:cV}(hm:t.mask=7){p:dA}(h:p0 p):p0 (t.advance p):=by
 rw [LY hm h.more]
 exact⟨rfl,rfl,Uo _ (by decide),h.dm⟩
theorem p0.fE{t:cV}(hm:t.mask=7): ∀{k:Nat} {p:dA},p0 p->p0 (Z.fE t k p)
 | 0,_,h=>h
 | k+1,_,h=>p0.fE hm (k:=k) (h.adv hm)
theorem zw{t:cV}(hm:t.mask=7): ∀(k:Nat) (p:dA),p0 p->(fE t k p).perturb=p.perturb / 32 ^ k
 | 0,p,_=>by show p.perturb=p.perturb / 1; rw [Nat.div_one]
 | k+1,p,h=>by
  show(fE t k (t.advance p)).perturb=_
  rw [zw hm k _ (h.adv hm),LY hm h.more]
  show p.perturb / 32 / 32 ^ k=_
  rw [Nat.div_div_eq_div_mul,Nat.pow_succ,Nat.mul_comm]
def Uw(j:Nat):Nat:=(j * 5+1) % 8
def DN:Nat->Nat->Nat
 | 0,j=>j
 | k+1,j=>DN k (Uw j)
theorem CD{t:cV}(hm:t.mask=7): ∀(k:Nat) (p:dA),p0 p->p.perturb=0->(fE t k p).j=DN k p.j
 | 0,p,_,_=>rfl
 | k+1,p,h,hp=>by
  show(fE t k (t.advance p)).j=DN k (Uw p.j)
  have e:=LY hm h.more
  rw [CD hm k _ (h.adv hm) (by rw [e]; show p.perturb / 32=0; rw [hp]),e]
  show DN k ((p.i * 5+1+p.perturb / 32) % 8)=_
  rw [hp,h.ij]
  rfl
theorem Jo: ∀j:Fin 8, ∀r:Fin 8, ∃k:Fin 8,DN k.1 j.1=r.1:=by decide
theorem ze: ∀(n:Nat) (l:List Nat),(∀r,r < n->r∈l)->n<=l.length
 | 0,_,_=>bN _
 | n+1,l,h=>by
  have hn:=h n (gz n)
  have h1:=ze n (l.erase n) fun r hr=>(List.mem_erase_of_ne (aJ hr)).mpr (h r (cH hr))
  have h2:=List.length_erase_of_mem hn
  have h3:=List.length_pos_of_mem hn
  omega
theorem wX{t:cV}(hd:t.dummies= #[]){r:Nat}(h:r∉t.place.toList):t.slot r= .empty:=by
 unfold Aq
 dsimp only
 have h1:(t.place[df t.place r]? ==some r)=false:=by
  rw [beq_eq_false_iff_ne]
  intro e
  exact h (by simpa using CN e)
 rw [h1,hd]
 rfl
theorem Bb{t:cV}(hd:t.dummies= #[])(r:Nat):t.slot r= .empty\/ ∃i,t.slot r= .live i/\t.place[i]? =some r:=by
 unfold Aq
 dsimp only
 by_cases h1:(t.place[df t.place r]? ==some r)=true
 ·rw [if_pos h1]
  exact .inr ⟨_,rfl,eq_of_beq h1⟩
 ·rw [if_neg h1,hd]
  exact .inl rfl
theorem reach{t:cV}(hm:t.mask=7)(hd:t.dummies= #[])(hs:t.place.size < 8){p:dA}(hp:p0 p)(hb:p.perturb < 2 ^ 64): ∃K,K<=20/\t.slot (fE t K p).j= .empty:=by
 have: ∃r,r < 8/\r∉t.place.toList:=by
  apply yJ
  intro hn
  have:=ze 8 t.place.toList fun r hr=>yJ fun z=>hn ⟨r,hr,z⟩
  simp at this
  omega
 obtain⟨r,hr,hnr⟩:=this
 have hq:=p0.fE hm (k:=13) hp
 have he: ∀k,fE t (13+k) p=fE t k (fE t 13 p):=fun k=>mB t 13 k p
 have hz:(fE t 13 p).perturb=0:=by
  rw [zw hm 13 p hp]
  exact Nat.div_eq_of_lt (bf hb (by decide +kernel))
 generalize fE t 13 p=q at hq hz he
 obtain⟨⟨k,hk8⟩,hk⟩:=Jo ⟨q.j,hq.lt⟩ ⟨r,hr⟩
 have hk':DN k q.j=r:=hk
 refine⟨13+k,by omega, ?_⟩
 rw [he,CD hm k _ hq hz,hk']
 exact wX hd hnr
theorem Hy{t:cV}(hm:t.mask=7)(h:Int):p0 (t.probeStart h)/\(t.probeStart h).perturb < 2 ^ 64:=by
 unfold SetTable.probeStart
 dsimp only
 rw [hm]
 have: ¬(MD h % (7+1)+9<=7):=by omega
 refine⟨⟨?_,rfl,Uo _ (by decide),rfl⟩, ?_⟩
 ·show Ld 7 _ - _=0
  unfold Ld
  rw [if_neg this]
  omega
 ·show MD h < 2 ^ 64
  unfold MD
  have h1:=gN h (show(0:Int) < 2 ^ 64 by decide)
  have h2:=iX h (show(2 ^ 64:Int)≠0 by decide)
  omega
theorem Fz{t:cV}(hm:t.mask=7)(hd:t.dummies= #[]){hashAt:Nat->Int}{h:Int}: ∀(K:Nat) (p:dA) (fuel:Nat),p0 p->t.slot (fE t K p).j= .empty->K < fuel->
  (∃j m,fN t hashAt h fuel p=some (.empty j none)/\t.slot j= .empty/\j < 8/\j=(fE t m p).j/\ ∀m',m' < m-> ∃i,t.slot (fE t m' p).j= .live i/\hashAt i≠h)\/
  ∃j i next K' m,fN t hashAt h fuel p=some (.candidate j i next)/\t.slot j= .live i/\t.place[i]? =some j/\K' < K/\t.slot (fE t K' next).j= .empty/\p0 next/\j=(fE t m p).j/\next=fE t (m+1) p/\ ∀m',m' < m-> ∃i,t.slot (fE t m' p).j= .live i/\hashAt i≠h
 | K,p,0,_,_,hf=>by omega
 | 0,p,fuel+1,hp,he,_=>by
  refine .inl ⟨p.j,0, ?_,he,hp.lt,rfl,fun m' h=>absurd h (kO _)⟩
  show(match t.slot p.j with | .empty=>some (rZ p.j p.dummy) | .dummy=>_ | .live i=>_)=_
  rw [show t.slot p.j= .empty from he,hp.dm]
 | K+1,p,fuel+1,hp,he,hf=>by
  rcases Bb hd p.j with hs | ⟨i,hs,hi⟩
  ·refine .inl ⟨p.j,0, ?_,hs,hp.lt,rfl,fun m' h=>absurd h (kO _)⟩
   show(match t.slot p.j with | .empty=>some (rZ p.j p.dummy) | .dummy=>_ | .live i=>_)=_
   rw [hs,hp.dm]
  ·by_cases hh:hashAt i=h
   ·refine .inr ⟨p.j,i,t.advance p,K,0, ?_,hs,hi,gz _,he,hp.adv hm,rfl,rfl,fun m' h=>absurd h (kO _)⟩
    show(match t.slot p.j with | .empty=>some (rZ p.j p.dummy) | .dummy=>fN t hashAt h fuel (t.advance {p with dummy:=some p.j}) | .live i=>if hashAt i==h then some (SetTable.Met.candidate p.j i (t.advance p))else fN t hashAt h fuel (t.advance p))=_
    rw [hs]
    dsimp only
    rw [if_pos (by rw [hh]; exact beq_self_eq_true h)]
   ·have e:fN t hashAt h (fuel+1) p=fN t hashAt h fuel (t.advance p):=by
     show(match t.slot p.j with | .empty=>some (rZ p.j p.dummy) | .dummy=>fN t hashAt h fuel (t.advance {p with dummy:=some p.j}) | .live i=>if hashAt i==h then some (SetTable.Met.candidate p.j i (t.advance p))else fN t hashAt h fuel (t.advance p))=_
     rw [hs]
     dsimp only
     rw [if_neg (by simpa using hh)]
    rw [e]
    have one: ∀m,(∀m',m' < m-> ∃i,t.slot (fE t m' (t.advance p)).j= .live i/\hashAt i≠h)-> ∀m',m' < m+1-> ∃i,t.slot (fE t m' p).j= .live i/\hashAt i≠h:=fun m hv m' hm'=>by
     cases m' with
     | zero=>exact⟨i,hs,hh⟩
     | succ m'=>exact hv m' (by omega)
    rcases Fz hm hd K (t.advance p) fuel (hp.adv hm) he (by omega)with⟨j,m,h1,h2,h3,h4,h5⟩ | ⟨j,i',next,K',m,h1,h2,h3,h4,h5,h6,h7,h8,h9⟩
    ·exact .inl ⟨j,m+1,h1,h2,h3,h4,one m h5⟩
    ·exact .inr ⟨j,i',next,K',m+1,h1,h2,h3,cH h4,h5,h6,h7,h8,one m h9⟩
def AZ:List Nat->List (List Nat)
 | []=> [[]]
 | a::l=>(AZ l).map (a:: ·) ++ AZ l
def subs:List (List Nat):=(AZ [0,1,2,3,4,5,6,7]).filter fun l=>l.length<=4
theorem Ft: []∈subs:=by decide +kernel
theorem GW:(subs.all fun l=>l.length==4 || [0,1,2,3,4,5,6,7].all fun j=>(l.toArray[df l.toArray j]? ==some j) || subs.contains (cj l.toArray (df l.toArray j) j).toList)=true:=by decide +kernel
theorem Ds:(subs.all fun l=>(bH (l.length+1)).all fun i=>df l.toArray (if i==0 then 0 else l.getD (i - 1) 0+1)==i)=true:=by decide +kernel
theorem JS:(subs.all fun l=>(bH l.length).all fun i=>df l.toArray (l.getD i 0)==i)=true:=by decide +kernel
theorem Kh:(subs.all fun l=> [0,1,2,3,4,5,6,7].all fun j=>decide (df l.toArray j<=l.length))=true:=by decide +kernel
theorem Ho{pl:Array Nat}(h:pl.toList∈subs){j:Nat}(hj:j < 8):df pl j<=pl.size:=by
 have h1:=dQ.mp Kh _ h
 have hm:j∈ [0,1,2,3,4,5,6,7]:=by simp only [aO,dR,or_false]; omega
 have h2:=of_decide_eq_true (dQ.mp h1 j hm)
 rw [aj]at h2
 exact h2
theorem slot_of{t:cV}(hp:t.place.toList∈subs){i r:Nat}(h:t.place[i]? =some r):t.slot r= .live i:=by
 have hi:i < t.place.size:=(cp.mp h).1
 have h1:=dQ.mp JS _ hp
 have h2:=eq_of_beq (dQ.mp h1 i (gw.mpr (by rw [aj]; exact hi)))
 have e:t.place.toList.getD i 0=r:=by rw [aB,bD,h]; rfl
 rw [e]at h2
 have h3:df t.place r=i:=h2
 unfold Aq
 dsimp only
 rw [h3,h,if_pos (beq_self_eq_true _)]
theorem slot_mem{t:cV}(hd:t.dummies= #[])(hp:t.place.toList∈subs){r:Nat}:t.slot r≠ .empty↔r∈t.place.toList:=by
 constructor
 ·intro h
  exact yJ fun z=>h (wX hd z)
 ·intro h e
  obtain⟨i,hi,e1⟩:=fY h
  have:=slot_of hp (i:=i) (r:=r) (by rw [<-bD,ah hi,e1])
  rw [this]at e
  cases e
theorem Jk{pl:Array Nat}(h:pl.toList∈subs)(h4:pl.size < 4){j:Nat}(hj:j < 8)(he: ¬pl[df pl j]? =some j):(cj pl (df pl j) j).toList∈subs:=by
 have h1:=dQ.mp GW _ h
 rw [Bool.or_eq_true]at h1
 rcases h1 with h1 | h1
 ·have:pl.toList.length=4:=eq_of_beq h1
  rw [aj]at this
  omega
 ·have hm:j∈ [0,1,2,3,4,5,6,7]:=by simp only [aO,dR,or_false]; omega
  have h2:=dQ.mp h1 j hm
  rw [Bool.or_eq_true]at h2
  rcases h2 with h2 | h2
  ·exact absurd (eq_of_beq h2) he
  ·exact List.contains_iff_mem.mp h2
theorem H_{pl:Array Nat}(h:pl.toList∈subs){i:Nat}(hi:i<=pl.size):df pl (if i=0 then 0 else pl.getD (i - 1) 0+1)=i:=by
 have h1:=dQ.mp Ds _ h
 have h2:=dQ.mp h1 i (gw.mpr (by rw [aj]; omega))
 have h3:=eq_of_beq h2
 have e:pl.toList.getD (i - 1) 0=pl.getD (i - 1) 0:=by simp [aB,kX]
 rw [e]at h3
 by_cases h0:i=0
 ·subst h0; exact h3
 ·rw [if_neg h0]
  rw [if_neg (by simpa using h0)]at h3
  exact h3
section
variable {prog:aq}{w:World}
abbrev TK(prog:aq)(w:World)(h:Heap)(ks:List Int)(b:Addr):Prop:=IsTupleKey (fX prog w) h ks b
abbrev mP(prog:aq)(w:World)(ks:List Int):Int:=tupleKeyHash (fX prog w) ks
structure PS(prog:aq)(w:World)(led:Bool)(h:Heap)(a:Addr)(o:Obj)(es:Array (Int×Value))(ep:Nat)(t:cV):Prop where
 get:h.get? a=some o
 ex:o.ExactSet
 dat:o.data= .set es ep t
 mask:t.mask=7
 Jj:t.dummies= #[]
 size:t.place.size=es.size
 plain:t.plain=true
 led:t.led=led
 mw:es.size<=4
 pl:t.place.toList∈subs
 el: ∀e∈es.toList, ∃ks b,e=(mP prog w ks,ak b)/\TK prog w h ks b
 on: ∀(i:Nat) (e:Int×Value),es[i]? =some e-> ∃K,t.place[i]? =some (fE t K (t.probeStart e.1)).j/\ ∀K',K' < K->t.slot (fE t K' (t.probeStart e.1)).j≠ .empty
 nd: ∃kk:List (List Int),kk.length=es.size/\kk.Nodup/\ ∀(i:Nat) (k:List Int),kk[i]? =some k-> ∃b,es[i]? =some (mP prog w k,ak b)/\TK prog w h k b
variable {led:Bool}{a:Addr}{o:Obj}{es:Array (Int×Value)}{ep:Nat}{t:cV}{A:bA}{E:Value->ai->Prop}{s:ai}
theorem PS.fits(S:PS prog w led s.heap a o es ep t):t.fits es.size=true:=by
 unfold SetTable.fits ME
 rw [S.size,S.Jj,S.mask]
 have:=S.mw
 simp
 omega
theorem PS.state{Q:(Array (Int×Value)×Nat×cV)->ai->Prop}(S:PS prog w led s.heap a o es ep t)(h:Q (es,ep,t) s):wpAny (model prog w) A (setState a) Q E s:=
 wpAny_setState_of S.get S.dat S.fits h
theorem xv{ks:List Int}{vs:List Value}(h:lZ (fX prog w) ks vs): ∀v∈vs, ∃i tk,v=gW i tk:=by
 induction h with
 | nil=>intro v hv; cases hv
 | cons h1 _ ih=>
  intro v hv
  rcases aO.mp hv with rfl | hv
  ·obtain⟨t,rfl⟩:=mQ h1
   exact⟨_,t,rfl⟩
  ·exact ih v hv
theorem y6{ks:List Int}{b:Addr}{Q:Bool->ai->Prop}{n:Nat}(hk:TK prog w s.heap ks b)(h:Q false s):wpAny (model prog w) A (sV (n+1) (.ref b)) Q E s:=by
 obtain⟨ob,items,m,ho,hc,hd,hi⟩:=id hk
 unfold sV
 refine aa (fL hk.typeIs ?_)
 dsimp only
 rw [if_pos (by decide)]
 refine aa (af ?_)
 simp only [fh,bo,if_false]
 refine aa (dX ho hd ?_)
 dsimp only
 have loop: ∀(l:List Value),(∀v∈l, ∃i tk,v=gW i tk)->wpAny (model prog w) A (forIn l ((none,()):Option Bool×Unit) fun y __s=>do
      let __do_lift<-sV n y
      if __do_lift=true then pure (ForInStep.done (some true,()))else pure (iY (none,()))) (fun r s'=>r=(none,())/\s'=s) E s:=by
  intro l
  induction l with
  | nil=>intro _; rw [gA]; exact af ⟨rfl,rfl⟩
  | cons v l ih=>
   intro hv
   rw [dg]
   obtain⟨i,tk,rfl⟩:=hv v (.head _)
   have e:sV n (.int i tk)=pure false:=by cases n <;> rfl
   rw [e]
   exact aa (af (ih fun x hx=>hv x (.tail _ hx)))
 rw [<-gO]
 refine aa (bW (loop items.toList (xv hi)) (fun r s' hr=> ?_) fun _ _ x=>x)
 obtain⟨rfl,rfl⟩:=hr
 exact af h
theorem JN{ks:List Int}{b:Addr}{Q:Bool->ai->Prop}{n:Nat}(hk:TK prog w s.heap ks b)(h:Q true s):wpAny (model prog w) A (EY (n+1) (.ref b)) Q E s:=by
 obtain⟨ob,items,m,ho,hc,hd,hi⟩:=id hk
 unfold EY
 refine aa (gT hk.typeIs PySem.F.slot_tuple_hash.lookup ?_)
 refine aa (dX ho hd ?_)
 have loop: ∀(l:List Value),(∀v∈l, ∃i tk,v=gW i tk)->wpAny (model prog w) A (forIn l ((none,()):Option Bool×Unit) fun x __s=>do
      let __do_lift<-EY n x
      if(!__do_lift)=true then pure (ForInStep.done (some false,()))else pure (iY (none,()))) (fun r s'=>r=(none,())/\s'=s) E s:=by
  intro l
  induction l with
  | nil=>intro _; rw [gA]; exact af ⟨rfl,rfl⟩
  | cons v l ih=>
   intro hv
   rw [dg]
   obtain⟨i,tk,rfl⟩:=hv v (.head _)
   have e:EY n (.int i tk)=pure true:=by cases n <;> rfl
   rw [e]
   exact aa (af (ih fun x hx=>hv x (.tail _ hx)))
 rw [Option.getD_some, <-gO]
 refine aa (bW (loop items.toList (xv hi)) (fun r s' hr=> ?_) fun _ _ x=>x)
 obtain⟨rfl,rfl⟩:=hr
 exact af h
theorem FO{ks:List Int}{b:Addr}{Q:Bool->ai->Prop}(hk:TK prog w s.heap ks b): ∀(l:List Value),(∀v∈l, ∃ks' b',v=ak b'/\TK prog w s.heap ks' b')->Q false s->wpAny (model prog w) A (searchCouldBeSeen (.ref b) l) Q E s:=by
 intro l hl h
 unfold searchCouldBeSeen
 have loop: ∀(l:List Value),(∀v∈l, ∃ks' b',v=ak b'/\TK prog w s.heap ks' b')-> ∀body:Value->Option Bool×Unit->Sem (ForInStep (Option Bool×Unit)),
   (∀ks' b' (R:ForInStep (Option Bool×Unit)->ai->Prop),TK prog w s.heap ks' b'->R (.yield (none,())) s->wpAny (model prog w) A (body (.ref b') (none,())) R E s)->
   wpAny (model prog w) A (forIn l ((none,()):Option Bool×Unit) body) (fun r s'=>r=(none,())/\s'=s) E s:=by
  intro l
  induction l with
  | nil=>intro _ body hb; rw [gA]; exact af ⟨rfl,rfl⟩
  | cons v l ih=>
   intro hv body hb
   rw [dg]
   obtain⟨ks',b',rfl,hk'⟩:=hv v (.head _)
   exact aa (hb ks' b' _ hk' (ih (fun x hx=>hv x (.tail _ hx)) body hb))
 refine aa (bW (loop l hl _ fun ks' b' R hk' hR=> ?_) (fun r s' hr=> ?_) fun _ _ x=>x)
 ·dsimp only
  split
  ·exact af hR
  ·refine aa (wpAny_eqIsQuiet_tuple hk ?_)
   simp only [fh,bo,if_false]
   refine aa (wpAny_eqIsQuiet_tuple hk' ?_)
   simp only [fh,bo,if_false]
   refine aa (y6 hk ?_)
   simp only [bo,if_false]
   refine aa (y6 hk' ?_)
   simp only [bo,if_false]
   exact af hR
 ·obtain⟨rfl,rfl⟩:=hr
  exact af h
theorem Kj{t:cV}{j i:Nat}(h:t.slot j= .live i)(hp:t.place[i]? =some j):i < t.place.size:=(cp.mp hp).1
def Hi(prog:aq)(w:World)(h:Heap)(es:Array (Int×Value))(ks:List Int)(i:Nat):Prop:= ∀b,es[i]? =some (mP prog w ks,ak b)-> ¬TK prog w h ks b
theorem xb(hu:A.units < cLine)(S:PS prog w led s.heap a o es ep t){ks:List Int}{b:Addr}(hk:TK prog w s.heap ks b){Q:SetFound->ai->Prop}
  (h1:(∃b',(mP prog w ks,ak b')∈es.toList/\TK prog w s.heap ks b')->Q (.there none) s)(h2: ∀j m,t.slot j= .empty->j < 8->j=(fE t m (t.probeStart (mP prog w ks))).j->(∀m',m' < m-> ∃i,t.slot (fE t m' (t.probeStart (mP prog w ks))).j= .live i/\Hi prog w s.heap es ks i)->Q (.free j false) s):
  ∀(K fuel:Nat) (stand:Option dA) (n0:Nat),stand.getD (t.probeStart (mP prog w ks))=fE t n0 (t.probeStart (mP prog w ks))->(∀m',m' < n0-> ∃i,t.slot (fE t m' (t.probeStart (mP prog w ks))).j= .live i/\Hi prog w s.heap es ks i)->K < fuel->p0 (stand.getD (t.probeStart (mP prog w ks)))->t.slot (fE t K (stand.getD (t.probeStart (mP prog w ks)))).j= .empty->K<=20->
   wpAny (model prog w) A (Ar a (.ref b) (mP prog w ks) true fuel stand) Q E s
 | K,0,_,_,_,_,hf,_,_,_=>by omega
 | K,fuel+1,stand,n0,hpos,hvis,hf,hp,he,h20=>by
  unfold Ar
  refine aa (S.state ?_)
  dsimp only
  have hg:t.gaveWay=false:=by unfold SetTable.gaveWay; rw [S.mask]; rfl
  rw [hg]
  simp only [bo,if_false]
  generalize hpr:t.probe _ _ _=met
  have hturn:10 * SetTable.turns t.mask=220:=by rw [S.mask]; rfl
  have vis: ∀m:Nat,(∀m',m' < m-> ∃i,t.slot (fE t m' (stand.getD (t.probeStart (mP prog w ks)))).j= .live i/\(es[i]?.map (·.1)).getD 0≠mP prog w ks)-> ∀m',m' < n0+m-> ∃i,t.slot (fE t m' (t.probeStart (mP prog w ks))).j= .live i/\Hi prog w s.heap es ks i:=fun m hv m' hm'=>by
   by_cases hlt:m' < n0
   ·exact hvis m' hlt
   ·obtain⟨i,hi1,hi2⟩:=hv (m' - n0) (by omega)
    rw [hpos, <-mB,show n0+(m' - n0)=m' by omega]at hi1
    exact⟨i,hi1,fun b hb _=>hi2 (by rw [hb]; rfl)⟩
  rcases Fz S.mask S.Jj (hashAt:=_) (h:=mP prog w ks) K _ (10 * SetTable.turns t.mask) hp he (by rw [hturn]; omega)with⟨j,m,e,hj,hj8,hjm,hv⟩ | ⟨j,i,next,K',m,e,hj,hi,hK,he',hp',hjm,hnx,hv⟩
  ·cases hpr.symm.trans e
   exact af (h2 j (n0+m) hj hj8 (by rw [hjm,hpos, <-mB]) (vis m hv))
  ·cases hpr.symm.trans e
   dsimp only
   have hlt:i < es.size:=by rw [<-S.size]; exact Kj hj hi
   have hm:es[i]∈es.toList:=by simp
   obtain⟨ks',b',ee,hk'⟩:=S.el _ hm
   have hget:es[i]? =some (mP prog w ks',ak b'):=by rw [di hlt,ee]
   rw [ee]at hm
   have main:wpAny (model prog w) A (match es[i]? with
     | some (_,y)=>do
      let equal<-kS [y] (eqBool y (ak b))
      let __x<-setState a
      if(true&&equal)=true then pure (SetFound.there none)
       else
        match __x.2.snd.sameMemory t.moves t.mask with
        | some same=>do
         let still<-match if same=true then __x.2.snd.slot j else SetTable.Slot.empty with
          | SetTable.Slot.live i'=>
           match __x.fst[i']? with
           | some (_,y')=>do
            let __do_lift<-isSame y' y
            pure (if __do_lift=true then some i' else none)
           | none=>pure none
          | _=>pure none
         match still with
          | none=>do
           rule "set.search.anew"
           Ar a (ak b) (mP prog w ks) true fuel none
          | some i'=>
           if equal=true then pure (SetFound.there (some i'))
           else Ar a (ak b) (mP prog w ks) true fuel (some next)
        | _=>jk "set.changed-during-lookup:is-the-new-block-at-the-old-address"
     | _=>jk "internal:set-entry") Q E s:=by
    rw [hget]
    dsimp only
    refine aa (bM (wpAny_eqBool_tuple hu hk' hk ?_))
    refine aa (S.state ?_)
    by_cases hkk:ks'=ks
    ·subst hkk
     rw [decide_eq_true rfl,if_pos (show(true&&true)=true from rfl)]
     exact af (h1 ⟨b',hm,hk'⟩)
    ·rw [decide_eq_false hkk,if_neg (show ¬(true&&false)=true by decide)]
     have hsm:t.sameMemory t.moves t.mask=some true:=by unfold SetTable.sameMemory; rw [if_pos (beq_self_eq_true _)]
     dsimp only
     rw [hsm]
     dsimp only
     rw [if_pos rfl,hj]
     dsimp only
     rw [hget]
     dsimp only
     refine aa (wpAny_isSame_ref_self ?_)
     rw [if_pos rfl]
     refine aa (af ?_)
     dsimp only
     rw [if_neg (by decide)]
     refine xb hu S hk h1 h2 K' fuel (some next) (n0+(m+1)) (by rw [Option.getD_some,hnx,hpos, <-mB]) (fun m' hm'=> ?_) (by omega) hp' he' (by omega)
     by_cases hlt:m' < n0+m
     ·exact vis m hv m' hlt
     ·have em:m'=n0+m:=by omega
      subst em
      refine⟨i,by rw [mB, <-hpos, <-hjm]; exact hj,fun b2 hb2 hk2=> ?_⟩
      rw [hget]at hb2
      have e2:b'=b2:=by injection hb2 with z; injection z with _ z; injection z
      rw [<-e2]at hk2
      exact hkk (yC hk' hk2)
   by_cases hl:t.led=true
   ·rw [hl]
    simp only [fh,bo,if_false]
    exact main
   ·rw [Bool.not_eq_true]at hl
    rw [hl]
    simp only [Bool.not_false,if_true]
    refine aa (FO hk _ (fun v hv=> ?_) ?_)
    ·obtain⟨x,hx,rfl⟩:=bh.mp hv
     have hx':x∈es.toList:=by
      have:x∈es/\x.fst=mP prog w ks:=by simpa using hx
      simpa using this.1
     obtain⟨ks2,b2,rfl,hk2⟩:=S.el x hx'
     exact⟨ks2,b2,rfl,hk2⟩
    ·simp only [bo,if_false]
     exact main
theorem pZ{α:Type}(xs:Array α)(p:Nat)(x:α):(cj xs p x).toList=xs.toList.take p ++ x::xs.toList.drop p:=by
 unfold cj
 simp [kh,dY]
theorem mF{α:Type}(xs:Array α)(p:Nat)(x:α):(cj xs p x).size=xs.size+1:=by
 rw [<-aj,pZ,ao,aL,bu,bI,aj]
 omega
theorem xO{α:Type}(xs:Array α)(p:Nat)(x e:α):e∈(cj xs p x).toList↔e∈xs.toList\/e=x:=by
 rw [pZ,bP,aO]
 have h:=bb p xs.toList
 constructor
 ·rintro(h1 | h1 | h1)
  ·exact .inl (ip h1)
  ·exact .inr h1
  ·exact .inl (ki h1)
 ·rintro(h1 | h1)
  ·rw [<-h,bP]at h1
   exact h1.elim .inl fun z=> .inr (.inr z)
  ·exact .inr (.inl h1)
theorem TK.at{h h':Heap}{a b:Addr}{ks:List Int}{o:Obj}{es:Array (Int×Value)}{ep:Nat}{t:cV}(x:TK prog w h ks b)(ho:h.get? a=some o)(hd:o.data= .set es ep t)(sb:bR a h h'):TK prog w h' ks b:=by
 obtain⟨o',items,n,ho',hc,hd',hi⟩:=x
 have hne:b≠a:=by
  rintro rfl
  rw [ho]at ho'
  cases ho'
  rw [hd]at hd'
  cases hd'
 exact⟨o',items,n,(sb.2 b hne).trans ho',hc,hd',hi⟩
theorem oO{α:Type}{xs:Array α}{p:Nat}(hp:p<=xs.size)(x:α)(i:Nat):(cj xs p x)[i]? =if i < p then xs[i]? else if i=p then some x else xs[i - 1]? :=by
 rw [<-bD,pZ,EZ,bu,aj,Le hp]
 by_cases h1:i < p
 ·rw [if_pos h1,if_pos h1,r6,if_pos h1,bD]
 ·rw [if_neg h1,if_neg h1]
  by_cases h2:i=p
  ·subst h2
   rw [if_pos rfl,kY]
   rfl
  ·rw [if_neg h2,show i - p=(i - p - 1)+1 by omega,cG,List.getElem?_drop,bD]
   congr 1
   omega
theorem og(t:cV)(j:Nat): ∀(k:Nat) (p:dA),fE (t.put j).fst k p=fE t k p
 | 0,_=>rfl
 | k+1,p=>by
  show fE (t.put j).fst k ((t.put j).fst.advance p)=fE t k (t.advance p)
  rw [og t j k]
  rfl
theorem L0(hu:A.units < cLine)(S:PS prog w led s.heap a o es ep t)(h3:es.size < 4){ks:List Int}{b:Addr}(hk:TK prog w s.heap ks b){Q:Bool->ai->Prop}
  (h1:(∃b',(mP prog w ks,ak b')∈es.toList/\TK prog w s.heap ks b')->Q false s)
  (h2: ∀(h':Heap) (o':Obj) (es':Array (Int×Value)) (t':cV),bR a s.heap h'->PS prog w led h' a o' es' (ep+1) t'->(∀e,e∈es'.toList↔e∈es.toList\/e=(mP prog w ks,ak b))->es'.size=es.size+1->Q true {s with heap:=h'}):
  wpAny (model prog w) A (setAddHashed a (.ref b) (mP prog w ks)) Q E s:=by
 unfold setAddHashed setAddHashedIn
 refine bM (aa (S.state ?_))
 dsimp only
 have hbs:byScan (.ref b) es=false:=rfl
 rw [hbs]
 simp only [bo,if_false]
 obtain⟨p1,p2⟩:=Hy S.mask (mP prog w ks)
 obtain⟨K,hK,he⟩:=reach S.mask S.Jj (by rw [S.size]; have:=S.mw; omega) p1 p2
 refine aa ?_
 unfold setSearch
 refine xb hu S hk (fun hx=> ?_) (fun j m hj hj8 hjm hvis=> ?_) K 100000 none 0 rfl (fun m' h=>absurd h (kO _)) (by omega) p1 he hK
 ·exact af (h1 hx)
 ·dsimp only
  refine aa (S.state ?_)
  have hpl:(t.put j).fst.plain=true:=S.plain
  rw [if_pos hpl]
  refine aa (JN hk ?_)
  rw [if_pos rfl]
  have hsz:=S.size
  have hps:(t.put j).fst.place.size=es.size+1:=by
   show(cj t.place _ j).size=_
   rw [mF,hsz]
  have hdm:(t.put j).fst.dummies= #[]:=by
   show(if SetTable.has t.dummies j then SetTable.eraseAt t.dummies (df t.dummies j)else t.dummies)= #[]
   rw [S.Jj]
   rfl
  have hmk:(t.put j).fst.mask=7:=S.mask
  have hfull:(t.put j).fst.tooFull=false:=by
   unfold SetTable.tooFull ME
   rw [hps,hdm,hmk]
   simp
   omega
  refine aa (wpAny_storeSet_of S.get S.dat ?_ (by rw [mF,eA]; show es.size+1<=_; omega))
  rw [hfull]
  simp only [lX,bo,if_false]
  have hpl':(t.put j).fst.place.toList∈subs:=by
   refine Jk S.pl (by rw [hsz]; exact h3) hj8 fun z=> ?_
   unfold Aq at hj
   dsimp only at hj
   rw [if_pos (by rw [z]; exact beq_self_eq_true _)]at hj
   cases hj
  have hle:(t.put j).snd<=t.place.size:=Ho S.pl hj8
  have hle2:(t.put j).snd<=es.size:=by rw [<-hsz]; exact hle
  have gp: ∀i,(t.put j).fst.place[i]? =if i < (t.put j).snd then t.place[i]? else if i=(t.put j).snd then some j else t.place[i - 1]? :=oO hle j
  have ge: ∀i,(cj es (t.put j).snd (mP prog w ks,ak b))[i]? =if i < (t.put j).snd then es[i]? else if i=(t.put j).snd then some (mP prog w ks,ak b)else es[i - 1]? :=oO hle2 _
  have full: ∀r,t.slot r≠ .empty->(t.put j).fst.slot r≠ .empty:=fun r hr=>by
   rw [slot_mem hdm hpl']
   exact(xO _ _ _ _).mpr (.inl ((slot_mem S.Jj S.pl).mp hr))
  have alone: ∀i b',es[i]? =some (mP prog w ks,ak b')-> ¬TK prog w s.heap ks b':=fun i b' hi hk'=>by
   obtain⟨Ki,k1,k2⟩:=S.on i _ hi
   have sl:=slot_of S.pl k1
   by_cases hlt:Ki < m
   ·obtain⟨i',v1,v2⟩:=hvis Ki hlt
    rw [sl]at v1
    cases v1
    exact v2 b' hi hk'
   ·by_cases heq:Ki=m
    ·subst heq
     rw [<-hjm,hj]at sl
     cases sl
    ·exact k2 m (by omega) (by rw [<-hjm]; exact hj)
  have hsb:=bB s.heap a (Obj.putSet (cj es (t.put j).snd (mP prog w ks,ak b)) (t.put j).fst)
  refine af (h2 _ {o with data:= .set (cj es (t.put j).snd (mP prog w ks,ak b)) (ep+1) (t.put j).fst} (cj es (t.put j).snd (mP prog w ks,ak b)) (t.put j).fst hsb ⟨?_, ?_,rfl,hmk,hdm,by rw [hps,mF],hpl,S.led,by rw [mF]; omega,hpl',fun e he=> ?_,fun i e he=> ?_, ?_⟩ (fun e=>xO _ _ _ _) (mF _ _ _))
  ·have:=dj (Obj.putSet (cj es (t.put j).snd (mP prog w ks,ak b)) (t.put j).fst) S.get (by rw [putSet_of _ _ S.dat]; rfl)
   rw [putSet_of _ _ S.dat]at this
   exact this
  ·exact S.ex
  ·rcases(xO _ _ _ _).mp he with he | rfl
   ·obtain⟨ks',b',e1,hk'⟩:=S.el e he
    exact⟨ks',b',e1,TK.at hk' S.get S.dat hsb⟩
   ·exact⟨ks,b,rfl,TK.at hk S.get S.dat hsb⟩
  ·have old: ∀i',es[i']? =some e->(t.put j).fst.place[i]? =t.place[i']? -> ∃K,(t.put j).fst.place[i]? =some (fE (t.put j).fst K ((t.put j).fst.probeStart e.1)).j/\ ∀K',K' < K->(t.put j).fst.slot (fE (t.put j).fst K' ((t.put j).fst.probeStart e.1)).j≠ .empty:=fun i' h1 h2=>by
    obtain⟨K,k1,k2⟩:=S.on i' e h1
    refine⟨K,by rw [h2,k1,og]; rfl,fun K' hK'=> ?_⟩
    rw [og]
    exact full _ (k2 K' hK')
   rw [ge i]at he
   split at he
   ·rename_i hlt
    exact old i he (by rw [gp i,if_pos hlt])
   ·rename_i hlt
    split at he
    ·rename_i heq
     cases he
     refine⟨m,by rw [gp i,if_neg hlt,if_pos heq,og,hjm]; rfl,fun K' hK'=> ?_⟩
     rw [og]
     obtain⟨i',v1,_⟩:=hvis K' hK'
     exact full _ (by show t.slot (fE t K' (t.probeStart (mP prog w ks))).j≠_; rw [v1]; intro z; cases z)
    ·rename_i heq
     exact old (i - 1) he (by rw [gp i,if_neg hlt,if_neg heq])
  ·obtain⟨kk,k1,k2,k3⟩:=S.nd
   have hni:ks∉kk:=fun hm'=>by
    obtain⟨i,hi,e1⟩:=fY hm'
    obtain⟨b',e2,e3⟩:=k3 i ks (by rw [ah hi,e1])
    exact alone i b' e2 e3
   have hlk:(t.put j).snd<=kk.length:=by rw [k1]; exact hle2
   refine⟨kk.take (t.put j).snd ++ ks::kk.drop (t.put j).snd, ?_, ?_,fun i k hk'=> ?_⟩
   ·rw [ao,aL,bu,bI,mF]
    omega
   ·have hp:(kk.take (t.put j).snd ++ ks::kk.drop (t.put j).snd).Perm (ks::kk):=by
     refine Kz.trans ?_
     rw [bb]
    exact hp.symm.nodup (eZ.mpr ⟨hni,k2⟩)
   ·rw [EZ,bu,Le hlk]at hk'
    have keep: ∀(i':Nat) (b':Addr),es[i']? =some (mP prog w k,ak b')->TK prog w s.heap k b'->(cj es (t.put j).snd (mP prog w ks,ak b))[i]? =es[i']? -> ∃b',(cj es (t.put j).snd (mP prog w ks,ak b))[i]? =some (mP prog w k,ak b')/\TK prog w _ k b':=fun i' b' h1 h2 h3=>⟨b',by rw [h3,h1],TK.at h2 S.get S.dat hsb⟩
    by_cases hlt:i < (t.put j).snd
    ·rw [if_pos hlt,r6,if_pos hlt]at hk'
     obtain⟨b',e1,e2⟩:=k3 i k hk'
     exact keep i b' e1 e2 (by rw [ge i,if_pos hlt])
    ·rw [if_neg hlt]at hk'
     by_cases heq:i=(t.put j).snd
     ·rw [heq,kY]at hk'
      have:ks=k:=by simpa using hk'
      subst this
      exact⟨b,by rw [ge i,if_neg hlt,if_pos heq],TK.at hk S.get S.dat hsb⟩
     ·rw [show i - (t.put j).snd=(i - (t.put j).snd - 1)+1 by omega,cG,List.getElem?_drop,show(t.put j).snd+(i - (t.put j).snd - 1)=i - 1 by omega]at hk'
      obtain⟨b',e1,e2⟩:=k3 (i - 1) k hk'
      exact keep (i - 1) b' e1 e2 (by rw [ge i,if_neg hlt,if_neg heq])
end
abbrev sP(w:World):Bool:=w.params.followText "set-order"
section
variable {prog:aq}{w:World}
def xN(prog:aq)(w:World)(h:Heap)(a:Addr)(val:Nat->List Int)(T:Nat->Addr)(i:Nat):Prop:=
 ∃o es ep t,PS prog w (!sP w) h a o es ep t/\es.size<=i/\(∀e∈es.toList, ∃j,j < i/\e=(mP prog w (val j),ak (T j)))/\ ∀j,j < i-> ∃j',j' < i/\(mP prog w (val j'),ak (T j'))∈es.toList/\val j'=val j
theorem TK.keep{h h':Heap}{b:Addr}{ks:List Int}(x:TK prog w h ks b)(k: ∀o,h.get? b=some o->h'.get? b=some o):TK prog w h' ks b:=by
 obtain⟨o,items,n,ho,r⟩:=x
 exact⟨o,items,n,k o ho,r⟩
theorem xN.at{h h':Heap}{a:Addr}{val:Nat->List Int}{T:Nat->Addr}{i:Nat}(x:xN prog w h a val T i)(hk: ∀o,h.get? a=some o->h'.get? a=some o)(ht: ∀j,j < i-> ∀o,h.get? (T j)=some o->h'.get? (T j)=some o):xN prog w h' a val T i:=by
 obtain⟨o,es,ep,t,S,h1,h2,h3⟩:=x
 have mv: ∀ks b v,(v,ak b)∈es.toList->TK prog w h ks b->TK prog w h' ks b:=fun ks b v hm hk=>by
  obtain⟨j,hj,e⟩:=h2 _ hm
  have e2:b=T j:=by injection e with _ z; injection z
  subst e2
  exact hk.keep (ht j hj)
 refine⟨o,es,ep,t,⟨hk o S.get,S.ex,S.dat,S.mask,S.Jj,S.size,S.plain,S.led,S.mw,S.pl,fun e he=> ?_,S.on, ?_⟩,h1,h2,h3⟩
 ·obtain⟨ks,b,rfl,hkk⟩:=S.el e he
  exact⟨ks,b,rfl,mv ks b _ he hkk⟩
 ·obtain⟨kk,k1,k2,k3⟩:=S.nd
  refine⟨kk,k1,k2,fun i k e=> ?_⟩
  obtain⟨b,e1,e2⟩:=k3 i k e
  exact⟨b,e1,mv k b _ (by simpa using CN e1) e2⟩
variable {A:bA}{R:Result->ai->Prop}{I:Addr}{fp wr:List Addr}{G:Array yu->Array yu->Prop}{n:Nat}{P:Nat->Value->Prop}{St:Nat->ai->Prop}
theorem DI(W:WalksS prog w A.in1 I fp wr G n P St)(hu:A.units+8 < cLine)(S:Addr)(hSf:S∉fp)(val:Nat->List Int)(T:Nat->Addr)(hval: ∀i v,P i v->v=ak (T i))(hT: ∀i,i < n->T i∉wr/\T i≠S)(hn:n<=4):
  ∀(k i:Nat) (s:ai),n - i=k->i<=n->St i s->xN prog w s.heap S val T i->(∀j,j < n->TK prog w s.heap (val j) (T j))->
   (∀s',Moved (S::wr) G s s'->xN prog w s'.heap S val T n->R (.ok (.ret .none)) s')->
   fK (model prog w) A (.builtin "set.update.loop" ⟨[.ref S, .ref I], []⟩) R s:=by
 have hSw:S∉wr:=fun h=>hSf (W.sub _ h)
 have hsub: ∀b∈wr,b∈S::wr:=fun b hb=>cA _ hb
 intro k
 induction k with
 | zero=>
  intro i s hk hi hst hS hTK hR
  have hin:i=n:=by omega
  subst hin
  refine dH PyProof.Rows.F.entry_set_update_loop ?_
  rw [cK iO _]
  show wpAny _ A.in1 (je (.ref I) >>=_) _ _ s
  refine aa (W.done s _ _ hst fun s' hm=> ?_)
  show wpAny _ A.in1 (ret aR) _ _ s'
  exact af (hR s' (hm.mono hsub) (hS.at (fun o e=>hm.heap S o hSw e) fun j hj o e=>hm.heap _ o (hT j hj).1 e))
 | succ k ih=>
  intro i s hk hi hst hS hTK hR
  have hlt:i < n:=by omega
  refine dH PyProof.Rows.F.entry_set_update_loop ?_
  rw [cK iO _]
  show wpAny _ A.in1 (je (.ref I) >>=_) _ _ s
  refine aa (W.item i s _ _ hlt hst fun v s' hP hst' hm=> ?_)
  have hv:=hval i v hP
  subst hv
  have hTK': ∀j,j < n->TK prog w s'.heap (val j) (T j):=fun j hj=>(hTK j hj).keep fun o e=>hm.heap _ o (hT j hj).1 e
  have hS':xN prog w s'.heap S val T i:=hS.at (fun o e=>hm.heap S o hSw e) fun j hj o e=>hm.heap _ o (hT j (by omega)).1 e
  show wpAny _ A.in1 (kS [ak (T i)] (setAdd S (.ref (T i))) >>=_) _ _ s'
  refine aa (bM ?_)
  unfold setAdd
  refine bM ?_
  refine aa (wpAny_pyHash_tuple (by show A.units+1 < cLine; omega) (hTK' i hlt) ?_)
  obtain⟨o,es,ep,t,PSx,q1,q2,q3⟩:=hS'
  have next: ∀h':Heap,bR S s'.heap h'->xN prog w h' S val T (i+1)-> ∀tk,s'.toks<=tk->
    fK (model prog w) A (.builtin "set.update.loop" ⟨[.ref S, .ref I], []⟩) R {s' with heap:=h',toks:=tk}:=fun h' hsb hSi tk htk=>by
   refine ih (i+1) _ (by omega) hlt (W.frame _ s' _ _ hst' htk fun b hb o e=> ?_) hSi (fun j hj=>(hTK' j hj).keep fun o e=>by rw [hsb.2 _ (hT j hj).2]; exact e) fun s'' hm'' hS''=> ?_
   ·rw [hsb.2 b (fun h:b=S=>hSf (by rw [<-h]; exact hb))]; exact e
   ·refine hR s'' (Moved.trans W.gtrans ((hm.mono hsub).then_heap htk fun b o hb e=> ?_) hm'') hS''
    rw [hsb.2 b (fun h:b=S=>hb (by rw [h]; exact ck))]; exact e
  refine L0 (s:={s' with toks:=s'.toks+((val i).length+1)}) (by show A.units+1 < cLine; omega) PSx (by omega) (hTK' i hlt) (fun hx=> ?_) fun h' o' es' t' hsb PSy hm2 hsz=> ?_
  ·refine af ⟨dW iO _,next s'.heap (dZ S s'.heap) ⟨o,es,ep,t,PSx,by omega,fun e he=> ?_,fun j hj=> ?_⟩ _ (Nat.le_add_right _ _)⟩
   ·obtain⟨j,hj,e1⟩:=q2 e he
    exact⟨j,by omega,e1⟩
   ·by_cases hji:j=i
    ·subst hji
     obtain⟨b',hb',hk'⟩:=hx
     obtain⟨j',hj',e1⟩:=q2 _ hb'
     have e2:b'=T j':=by injection e1 with _ e3; injection e3
     rw [e2]at hk' hb'
     have e4:val j'=val j:=yC (hTK' j' (by omega)) hk'
     refine⟨j',by omega, ?_,e4⟩
     rw [e4]
     exact hb'
    ·obtain⟨j',hj',e1,e2⟩:=q3 j (by omega)
     exact⟨j',by omega,e1,e2⟩
  ·refine af ⟨dW iO _,next h' hsb ⟨o',es',ep+1,t',PSy,by omega,fun e he=> ?_,fun j hj=> ?_⟩ _ (Nat.le_add_right _ _)⟩
   ·rcases(hm2 e).mp he with he | he
    ·obtain⟨j,hj,e1⟩:=q2 e he
     exact⟨j,by omega,e1⟩
    ·exact⟨i,by omega,he⟩
   ·by_cases hji:j=i
    ·subst hji
     exact⟨j,by omega,(hm2 _).mpr (.inr rfl),rfl⟩
    ·obtain⟨j',hj',e1,e2⟩:=q3 j (by omega)
     exact⟨j',by omega,(hm2 _).mpr (.inl e1),e2⟩
end
section
variable {prog:aq}{w:World}{A:bA}{E:Value->ai->Prop}{s:ai}
theorem yW(a:Value){Q₁:Value->ai->Prop}(h:Q₁ (.ref s.heap.objs.size) {s with heap:=s.heap.push {cls:= .type "set",dict:=none,data:= .set #[] 0 (.fresh 0 0 (!sP w))}}):
  fK (model prog w) A (.call (.builtin "set.__new__") ⟨[.type "set",a], []⟩) (wants Q₁ E) s:=by
 refine codeAny_of_tree ?_
 show wpAny _ A.in1 (do KA "set.__new__" ⟨[.type "set",a], []⟩; again (.builtin "set.__new__" ⟨[.type "set",a], []⟩)) _ _ s
 refine aa (vN (PySem.F.newCall_set_1 a) (af ⟨dW PySem.F.plain_set_new _,dH PySem.F.entry_set_new ?_⟩))
 rw [cK PySem.F.plain_set_new _]
 unfold dF.«set.__new__» Builtin.Frozenset.newClass
 have hsub:=PySem.sub_set_self
 obtain⟨hp,g,d,tk,os⟩:=s
 dsimp only
 wp_walk
 refine nY (af ?_)
 dsimp only
 simp only [newObj]
 refine aa (wpAny_alloc (af ?_))
 exact af h
set_option maxHeartbeats 3200000 in
theorem Hv{l:Addr}{items:Array Value}{n:Nat}{val:Nat->List Int}{T:Nat->Addr}{Q:Value->ai->Prop}(hh:A.handled=none)(hu:A.units+16 < cLine)(hl:s.heap.IsList l items)(hn:items.size=n)(h4:n<=4)
  (hi: ∀i,i < n->items[i]? =some (.ref (T i)))(hTK: ∀i,i < n->TK prog w s.heap (val i) (T i))
  (h: ∀(h':Heap) (tk:Nat),xN prog w h' s.heap.objs.size val T n->(∀b o,b < s.heap.objs.size->s.heap.get? b=some o->h'.get? b=some o)->Q (.ref s.heap.objs.size) {s with heap:=h',toks:=tk}):
  wpAny (model prog w) A (call (.type "set") [.ref l]) Q E s:=by
 obtain⟨c,tl,hmro⟩:=fx.mro
 have hmade:=fx.made
 have hsub:=fx.sub
 refine yx (codeAny_of_tree ?_)
 show wpAny _ _ (callAny (.type "set") _) _ _ _
 refine af ⟨Code.quiet_builtin _ (by decide +kernel),dH PySem.F.entry_type_call ?_⟩
 rw [Around.under_plain (weight_type_call_type "set" [.ref l] []) rfl]
 have h1:=fx.notType
 have h2:=fx.canCreate
 have hct:=PySem.F.typeCall_set_1 (.ref l)
 repeat (any_goals (first | assumption | wp_step))
 refine jB (yW (.ref l) (E:=E) (Q₁:=fun obj s₁=>obj= .ref s.heap.objs.size/\s₁={s with heap:=s.heap.push {cls:= .type "set",dict:=none,data:= .set #[] 0 (.fresh 0 0 (!sP w))}}) ⟨rfl,rfl⟩) fun r s₁ hr=> ?_
 cases r with
 | error e=>exact hr
 | ok fl=>
  cases fl with
  | ret obj=>
   obtain⟨rfl,rfl⟩:=hr
   have hS:(s.heap.push {cls:= .type "set",dict:=none,data:= .set #[] 0 (.fresh 0 0 (!sP w))}).get? s.heap.objs.size=some {cls:= .type "set",dict:=none,data:= .set #[] 0 (.fresh 0 0 (!sP w))}:=az _ rfl
   have hT1:gY {s with heap:=s.heap.push {cls:= .type "set",dict:=none,data:= .set #[] 0 (.fresh 0 0 (!sP w))}} (.ref s.heap.objs.size) "set":=⟨_,hS,rfl⟩
   have hli:=fx.init.lookup
   have hbi:=fx.init.bind (.ref s.heap.objs.size)
   repeat (any_goals (first | assumption | wp_step))
   refine jB (codeAny_call_builtin (R:=wants (fun r s₂=>r= .none/\ ∃h' tk,s₂={s with heap:=h',toks:=tk}/\xN prog w h' s.heap.objs.size val T n/\
     (∀b o,b < s.heap.objs.size->s.heap.get? b=some o->h'.get? b=some o)) E) fx.init.plain PySem.F.entry_set_init (check_set_init_1 hT1 ?_)) fun r₂ s₂ hr₂=> ?_
   ·obtain⟨ol,hol,hcl,nl,hdl⟩:=hl
    obtain⟨ocls,odict,odata,oslots⟩:=ol
    simp only at hcl hdl
    subst hcl; subst hdl
    have hol':(s.heap.push {cls:= .type "set",dict:=none,data:= .set #[] 0 (.fresh 0 0 (!sP w))}).get? l=some {cls:= .type "list",dict:=odict,data:= .seq items nl,slots:=oslots}:=ag _ hol
    have hsls:=PySem.F.sub_list_set
    have hslf:=PySem.F.sub_list_frozenset
    have hne:(cR "list"==cR "dict")=false:=by decide
    have hl1:(s.heap.push {cls:= .type "set",dict:=none,data:= .set #[] 0 (.fresh 0 0 (!sP w))}).IsList l items:=⟨_,hol',rfl,nl,rfl⟩
    unfold dF.«set.__init__» noKeywords Builtin.Frozenset.updateFrom
    generalize hPI:vD=PI
    wp_walk
    subst hPI
    refine sR hl1 ?_
    refine aa (yD ?_)
    have hlS:l < s.heap.objs.size:=av hol
    have hneI:l≠(s.heap.push {cls:= .type "set",dict:=none,data:= .set #[] 0 (.fresh 0 0 (!sP w))}).objs.size:=by
     rw [cO]; exact aJ (cH hlS)
    have hSf:s.heap.objs.size∉ [(s.heap.push {cls:= .type "set",dict:=none,data:= .set #[] 0 (.fresh 0 0 (!sP w))}).objs.size,l]:=by
     rw [cO]; simp only [aO,aN,dR,or_false,not_or]
     exact⟨aJ (gz _),bY hlS⟩
    have ltT: ∀i,i < n->T i < s.heap.objs.size:=fun i hi'=>by obtain⟨o,_,_,ho,_⟩:=hTK i hi'; exact av ho
    refine DI ((Walks.list (by simp [hh]) _ l hneI items).toS) (by simp only [j6]; omega) s.heap.objs.size hSf val T (fun i v hv=> ?_) (fun i hi'=>⟨?_,aJ (ltT i (by omega))⟩) (by omega) (items.size - 0) 0 _ (by omega) (bN _)
     ⟨⟨_,az _ rfl,rfl,rfl⟩,(hl1.push _)⟩ ⟨_, #[],0, .fresh 0 0 (!sP w),⟨ag _ hS,⟨rfl,rfl,rfl⟩,rfl,rfl,rfl,rfl,rfl,rfl,by decide,Ft,(fun e he=>by simp at he),(fun i e he=>by simp at he),⟨[],rfl,qr,fun i k e=>by simp at e⟩⟩,ay _,fun e he=>by simp at he,fun j hj=>by omega⟩
     (fun j hj=>(hTK j (by omega)).keep fun o e=>ag _ (ag _ e)) ?hR
    ·have hlt:i < n:=by rw [<-hn]; exact(cp.mp hv).1
     have:=hi i hlt
     rw [hv]at this
     exact aH this
    ·intro z
     have:=ltT i (by omega)
     simp only [aO,dR,or_false]at z
     rw [cO]at z
     exact absurd z (aJ (cH this))
    case hR=>
     intro s' hm hS'
     obtain⟨h',g',d',tk',os'⟩:=s'
     have eg:g'=s.gens:=hm.gens
     have ed:d'=s.drawn:=hm.drawn
     have eo:os'=s.os:=hm.os
     subst eg; subst ed; subst eo
     show wpAny _ _ _ _ _ _
     refine af ?_
     show wpAny _ _ (ret aR) _ _ _
     refine af ⟨rfl,h',tk',rfl,by rw [<-hn]; exact hS',fun b o hb e=> ?_⟩
     have hb1:b≠s.heap.objs.size:=aJ hb
     have hb2:b≠(s.heap.push {cls:= .type "set",dict:=none,data:= .set #[] 0 (.fresh 0 0 (!sP w))}).objs.size:=by
      rw [cO]; exact aJ (cH hb)
     exact hm.heap b o (by simp only [aO,aN,dR,or_false,not_or]; exact⟨hb1,hb2⟩) (ag _ (ag _ e))
   ·cases r₂ with
    | error e=>exact hr₂
    | ok fl₂=>
     cases fl₂ with
     | ret r=>
      obtain⟨rfl,h',tk,rfl,hS',hk'⟩:=hr₂
      repeat (any_goals (first | assumption | wp_step))
      exact h _ _ hS' hk'
     | _=>exact hr₂.elim
  | _=>exact hr.elim
end
namespace F
theorem uB:entryFor table "set.__iter__"=some dF.«frozenset.__iter__» :=entryFor_alias (id':="frozenset.__iter__") (by kernel_rfl) rfl (by decide +kernel) (by kernel_rfl)
theorem args_set_iter_1(a:Value):argsOk "set.__iter__" ⟨[a], []⟩:=by unfold argsOk; kernel_rfl
theorem i4:Slot "set_iterator" "__next__" "set_iterator.__next__":=
 .of (owner:="set_iterator") (n:="__next__") (by rw [Lf,CP]; kernel_rfl) (by decide +kernel) (by decide +kernel) (by decide +kernel)
  (by first | exact .inl (by decide +kernel) | exact .inr (by decide +kernel)) (by rw [qt]; kernel_rfl)
theorem sJ:entryFor table "set_iterator.__next__"=some dF.«set_iterator.__next__» :=entryFor_of_tree (by kernel_rfl)
theorem rR(a:Value):argsOk "set_iterator.__next__" ⟨[a], []⟩:=by unfold argsOk; kernel_rfl
theorem ox:Slot "set_iterator" "__iter__" "set_iterator.__iter__":=
 .of (owner:="set_iterator") (n:="__iter__") (by rw [Lf,CP]; kernel_rfl) (by decide +kernel) (by decide +kernel) (by decide +kernel)
  (by first | exact .inl (by decide +kernel) | exact .inr (by decide +kernel)) (by rw [qt]; kernel_rfl)
theorem sO:entryFor table "set_iterator.__iter__"=some dF.«dict_keyiterator.__iter__» :=entryFor_alias (id':="dict_keyiterator.__iter__") (by kernel_rfl) rfl (by decide +kernel) (by kernel_rfl)
theorem rN(a:Value):argsOk "set_iterator.__iter__" ⟨[a], []⟩:=by unfold argsOk; kernel_rfl
theorem Kk:typeLookup (.type "set") "__len__"=pure (some (.builtin "set.__len__")):=by rw [Lf,CP]; kernel_rfl
end F
theorem BQ{α:Type}(next:Nat->Nat): ∀(fuel k:Nat) (left:List α) (out:Array α),left.length=fuel->(pickOrder.go next fuel k left out).toList.Perm (out.toList ++ left)
 | 0,k,left,out,h=>by
  have:left= []:=nX.mp h
  subst this
  show out.toList.Perm _
  rw [bq]
 | fuel+1,k,left,out,h=>by
  have hpos:0 < left.length:=by omega
  have hlt:next k % left.length < left.length:=Uo _ hpos
  have e:left[next k % left.length]? =some left[next k % left.length]:=ah hlt
  show(match left[next k % left.length]? with | some x=>pickOrder.go next fuel (k+1) (left.eraseIdx (next k % left.length)) (out.push x) | none=>out).toList.Perm _
  rw [e]
  dsimp only
  refine(BQ next fuel (k+1) _ _ (by rw [List.length_eraseIdx_of_lt hlt]; omega)).trans ?_
  rw [jF,aV]
  refine eK _ ?_
  generalize next k % left.length=j at hlt
  have: ∀(l:List α) (j:Nat) (h:j < l.length),([l[j]] ++ l.eraseIdx j).Perm l:=by
   intro l
   induction l with
   | nil=>intro j h; simp at h
   | cons a l ih=>
    intro j h
    cases j with
    | zero=>exact dB _
    | succ j=>
     have h':j < l.length:=by simpa using h
     refine gU (List.Perm.swap _ _ _) ?_
     exact List.Perm.cons a (ih j h')
  exact this left j hlt
theorem DO{α:Type}(next:Nat->Nat)(xs:Array α):(pickOrder next xs).toList.Perm xs.toList:=by
 unfold pickOrder
 refine(BQ next xs.size 0 xs.toList #[] (by simp)).trans ?_
 simp
section
variable {prog:aq}{w:World}
def mh(w:World)(a:Addr)(ep:Nat)(es:Array (Int×Value)):Array (Int×Value):=if sP w then pickOrder (w.params.setOrder a ep) es else es
theorem z_(w:World)(a:Addr)(ep:Nat)(es:Array (Int×Value)):(mh w a ep es).toList.Perm es.toList:=by
 unfold mh
 split
 ·exact DO _ _
 ·exact dB _
theorem ui(w:World)(a:Addr)(ep:Nat)(es:Array (Int×Value)):(mh w a ep es).size=es.size:=by
 have:=(z_ w a ep es).length_eq
 simpa using this
def ji(w:World)(t:cV)(i:Nat):Nat:=if sP w then 0 else if i=0 then 0 else t.place.getD (i - 1) 0+1
def nM(w:World)(a:Addr)(ep n:Nat)(t:cV)(i:Nat):Obj:={cls:= .type "set_iterator",data:= .fields #[.int (ji w t i) 0, .int i 0, .ref a, .int n 0, .int ep 0]}
variable {a:Addr}{o:Obj}{es:Array (Int×Value)}{ep:Nat}{t:cV}{A:bA}{E:Value->ai->Prop}{s:ai}
structure PF(led:Bool)(o:Obj)(es:Array (Int×Value))(ep:Nat)(t:cV):Prop where
 ex:o.ExactSet
 dat:o.data= .set es ep t
 mask:t.mask=7
 Jj:t.dummies= #[]
 size:t.place.size=es.size
 plain:t.plain=true
 led:t.led=led
 mw:es.size<=4
 pl:t.place.toList∈subs
theorem PS.pf{led:Bool}{h:Heap}(S:PS prog w led h a o es ep t):PF led o es ep t:=⟨S.ex,S.dat,S.mask,S.Jj,S.size,S.plain,S.led,S.mw,S.pl⟩
theorem PF.fits{led:Bool}(S:PF led o es ep t):t.fits es.size=true:=by
 unfold SetTable.fits ME
 rw [S.size,S.Jj,S.mask]
 have:=S.mw
 simp
 omega
theorem PF.state{led:Bool}{Q:(Array (Int×Value)×Nat×cV)->ai->Prop}(S:PF led o es ep t)(hg:s.heap.get? a=some o)(h:Q (es,ep,t) s):wpAny (model prog w) A (setState a) Q E s:=
 wpAny_setState_of hg S.dat S.fits h
theorem Ku{Q:Option (Value×Nat)->ai->Prop}{i:Nat}(S:PF (!sP w) o es ep t)(hg:s.heap.get? a=some o)(hi:i<=es.size)
  (h:Q (((mh w a ep es)[i]?).map fun e=>(e.2,ji w t (i+1))) s):wpAny (model prog w) A (setNext a (ji w t i) i ep) Q E s:=by
 unfold setNext
 refine aa (S.state hg ?_)
 unfold setsByText
 refine aa (aa (nY (af ?_)))
 have hfx:({program:=(model prog w).prog,params:=(model prog w).w.params}:Setting).params.followText "set-order"=sP w:=rfl
 rw [hfx]
 by_cases hb:sP w=true
 ·rw [if_pos hb]
  dsimp only
  rw [if_neg (by simp)]
  unfold setWalk setsByText
  refine aa (aa (S.state hg ?_))
  refine aa (aa (nY (af ?_)))
  rw [hfx,if_pos hb]
  refine aa (nY (af (af ?_)))
  have e1:ji w t (i+1)=0:=by unfold ji; rw [if_pos hb]
  have e2:ji w t i=0:=by unfold ji; rw [if_pos hb]
  rw [e1]at h
  rw [e2]
  unfold mh at h
  rw [if_pos hb]at h
  exact h
 ·rw [if_neg hb]
  dsimp only
  split
  ·rename_i hd
   have hd':(!t.plain&&decide (es.size > 1))=true:=hd
   rw [S.plain]at hd'
   cases hd'
  ·refine aa ?_
   show wpAny (model prog w) A (if(!t.led&& !es.isEmpty)=true then jk "set:maker-not-led" else pure ()) _ _ _
   have hbf:sP w=false:=by simpa using hb
   have hled:t.led=true:=by rw [S.led,hbf]; rfl
   rw [hled,if_neg (by simp)]
   refine af (af ?_)
   have e0:ji w t i=if i=0 then 0 else t.place.getD (i - 1) 0+1:=by unfold ji; rw [if_neg hb]
   have hix:df t.place (ji w t i)=i:=by rw [e0]; exact H_ S.pl (by rw [S.size]; exact hi)
   rw [hix]
   unfold mh at h
   rw [if_neg hb]at h
   by_cases hlt:i < es.size
   ·have h1:es[i]? =some es[i]:=di hlt
    have hlt2:i < t.place.size:=by rw [S.size]; exact hlt
    have h2:t.place[i]? =some t.place[i]:=di hlt2
    rw [h1]at h ⊢
    rw [h2]
    have e1:ji w t (i+1)=t.place[i]+1:=by
     unfold ji
     rw [if_neg hb,if_neg (by omega),Nat.add_sub_cancel]
     congr 1
     simp [r8,hlt2]
    rw [e1]at h
    exact h
   ·have h1:es[i]? =none:=by simp; omega
    rw [h1]at h ⊢
    exact h
theorem GC{Q:Option Value->ai->Prop}{I:Addr}{i:Nat}(hh:A.handled=none)(S:PF (!sP w) o es ep t)(hg:s.heap.get? a=some o)(hI:s.heap.get? I=some (nM w a ep es.size t i))(hi:i<=es.size)
  (h1: ∀e h',(mh w a ep es)[i]? =some e->h'.get? I=some (nM w a ep es.size t (i+1))->bR I s.heap h'->Q (some e.2) {s with heap:=h'})
  (h2:(mh w a ep es)[i]? =none-> ∀h',E1 I s.heap h'->Q none {s with heap:=h'}):wpAny (model prog w) A (je (.ref I)) Q E s:=by
 have hT:s.TypeIs (.ref I) "set_iterator":=⟨_,hI,rfl⟩
 unfold je
 refine aa (nI (cZ (name:=iF "__next__") hT F.i4 (bS F.i4 hT F.sJ ?_ (F.rR _))))
 unfold dF.«set_iterator.__next__» slotArgs
 simp only [List.isEmpty_nil,fh,bo, ↓reduceIte,bind_assoc,dG,bne_self_eq_false]
 refine aa (af ?_)
 refine aa (wpAny_fieldsOf hI rfl ?_)
 show wpAny (model prog w) _ (do
  let __do_lift_2<-setEntries a
  if((__do_lift_2.size:Int) !=(es.size:Int))=true then _ else _) _ _ s
 refine aa (wpAny_setEntries_of hg S.dat S.fits ?_)
 rw [if_neg (by simp)]
 show wpAny (model prog w) _ (do
  let __do_lift_3<-setNext a (ji w t i:Int).toNat (i:Int).toNat (ep:Int).toNat
  match __do_lift_3 with
   | some (x,next)=>do
    iq (.ref I) 0 (eS (next:Int))
    iq (.ref I) 1 (eS ((i:Int)+1))
    ret x
   | none=>do
    iq (.ref I) 2 aR
    let __do_lift<-vH (cR "StopIteration") []
    raiseNew __do_lift) _ _ s
 rw [cW,cW,cW]
 refine aa (Ku S hg hi ?_)
 cases e:(mh w a ep es)[i]? with
 | some x=>
  dsimp only [Option.map_some]
  refine aa (dC hI rfl (by show 0 < 5; decide) ?_)
  have hI2:(s.heap.update I (eN (·.setIfInBounds 0 (eS (ji w t (i+1):Int))))).get? I=some {cls:= .type "set_iterator",data:= .fields #[.int (ji w t (i+1)) 0, .int i 0, .ref a, .int es.size 0, .int ep 0]}:=dj _ hI rfl
  refine aa (dC hI2 rfl (by show 1 < 5; decide) ?_)
  refine af ⟨_,rfl,af (h1 x _ e ?_ ((bB ..).trans (bB ..)))⟩
  exact dj _ hI2 rfl
 | none=>
  dsimp only [Option.map_none]
  refine aa (dC hI rfl (by show 2 < 5; decide) ?_)
  show wpAny _ _ (vH (.type "StopIteration") [] >>=_) _ _ _
  refine aa ?_
  simp only [vH,newTuple]
  refine aa (bw ?_ (by size_fits))
  refine aa (m:=ir _ _) (vN (a:=aR) (by first | rfl | (simp only [ir]; rfl)) ?_)
  refine bw ?_ (by size_fits)
  simp only [raiseNew]
  refine aa (As ?_)
  rw [show A.in1.handled=none from hh]
  refine aa (af (E2 ?_))
  refine aa (fj (T:="StopIteration") (b:=true) ⟨_,az _ rfl,rfl⟩ yE ?_)
  exact af (h2 e _ (((bB ..).extBut.push _).push _))
theorem Dp(hh:A.handled=none)(S:PF (!sP w) o es ep t){I:Addr}(hIa:I≠a):Walks prog w A I [I,a] [I] es.size (fun i v=> ∃e,(mh w a ep es)[i]? =some e/\v=e.2) (fun i h=>h.get? I=some (nM w a ep es.size t i)/\h.get? a=some o/\i<=es.size) where
 sub:=fun b hb=>by rw [aN.mp hb]; exact ck
 frame:=fun i h h' ⟨x,y,z⟩ hk=>⟨hk I (by simp) _ x,hk a (by simp) _ y,z⟩
 item:=fun i s Q E hi ⟨x,y,z⟩ hQ=>GC hh S y x z (fun e h' he hI' sb=>hQ _ h' s.toks ⟨e,he,rfl⟩ ⟨hI',(sb.2 a hIa.symm).trans y,hi⟩ fun b ob hb q=>(sb.2 b (by simpa using hb)).trans q) fun he=>by
  have:=ui w a ep es
  rw [di (by omega)]at he
  cases he
 done:=fun s Q E ⟨x,y,z⟩ hQ=>GC hh S y x z (fun e h' he _ _=>by
  have:=ui w a ep es
  have:=(cp.mp he).1
  omega) fun _ h' eb=>hQ h' s.toks fun b ob hb q=>eb b ob (by simpa using hb) q
 self:=fun i s Q E ⟨x,y,z⟩ hQ=>by
  have hT:s.TypeIs (.ref I) "set_iterator":=⟨_,x,rfl⟩
  refine jG hT F.ox (bS F.ox hT F.sO ?_ (F.rN _))
  show wpAny _ _ (ret (.ref I)) _ _ s
  exact af ⟨_,rfl,"set_iterator",_,hT,F.i4.lookup,hQ⟩
theorem HR{Q:Value->ai->Prop}(S:PF (!sP w) o es ep t)(hg:s.heap.get? a=some o)(h:Q (.ref s.heap.objs.size) {s with heap:=s.heap.push (nM w a ep es.size t 0)}):wpAny (model prog w) A (vD (.ref a)) Q E s:=by
 have hT:s.TypeIs (.ref a) "set":=⟨_,hg,S.ex.1⟩
 refine jG hT PySem.F.slot_set_iter (bS PySem.F.slot_set_iter hT F.uB ?_ (F.args_set_iter_1 _))
 unfold dF.«frozenset.__iter__» Builtin.Frozenset.slot0 slotArgs
 simp only [List.isEmpty_nil,fh,bo, ↓reduceIte,bind_assoc,dG,bne_self_eq_false]
 unfold Builtin.Frozenset.addrOf Builtin.Frozenset.sizeOf
 refine aa (af ?_)
 try dsimp only
 refine aa (af ?_)
 refine aa (aa (wpAny_setEntries_of hg S.dat S.fits (af ?_)))
 unfold setDrawn setsByText
 refine aa (aa (S.state hg ?_))
 refine aa (aa (nY (af (af ?_))))
 split
 ·rename_i hd
  have hd':((!sP w)&&(!t.plain&&decide (es.size > 1)))=true:=hd
  rw [S.plain]at hd'
  simp at hd'
 refine aa (af ?_)
 unfold setEpoch
 refine aa (aa (S.state hg (af ?_)))
 have hs0:ji w t 0=0:=by unfold ji; split <;> rfl
 refine aa (bw (af ⟨_,rfl,"set_iterator",_,⟨_,az _ rfl,rfl⟩,F.i4.lookup, ?_⟩))
 have e:(nM w a ep es.size t 0)={cls:= .type "set_iterator",data:= .fields #[.int ((0:Nat):Int) 0, .int ((0:Nat):Int) 0, .ref a, .int es.size 0, .int ep 0]}:=by unfold nM; rw [hs0]
 rw [e]at h
 exact h
theorem zk{Q:List Value->ai->Prop}(hh:A.handled=none)(S:PF (!sP w) o es ep t)(hg:s.heap.get? a=some o)
  (hQ: ∀h' tk (vs:List Value),s.heap.objs.size < h'.objs.size->(∀b ob,s.heap.get? b=some ob->h'.get? b=some ob)->vs.Perm (es.toList.map (·.2))->Q vs {s with heap:=h',toks:=tk}):wpAny (model prog w) A (collect (.ref a)) Q E s:=by
 have hlt:a < s.heap.objs.size:=av hg
 unfold collect
 refine aa (yD (dH xn ?_))
 rw [cK xo _]
 show wpAny _ A.in1 (newList [] >>=fun l=>again (.builtin "list.__iadd__" ⟨[l, .ref a], []⟩)) _ _ s
 refine aa (bw ?_)
 refine af ⟨dW gB _,dH AD ?_⟩
 rw [cK gB _]
 have hg1:(s.heap.push {cls:= .type "list",data:= .seq ([]:List Value).toArray}).get? a=some o:=ag _ hg
 have hS₁:(s.heap.push {cls:= .type "list",data:= .seq ([]:List Value).toArray}).get? s.heap.objs.size=some {cls:= .type "list",data:= .seq ([]:List Value).toArray}:=az _ rfl
 have h1:fV (.ref s.heap.objs.size) (.ref a)=false:=by simp [fV,bY hlt]
 have hT:gY {s with heap:=s.heap.push {cls:= .type "list",data:= .seq ([]:List Value).toArray}} (.ref a) "set":=⟨_,hg1,S.ex.1⟩
 show wpAny _ A.in1 (fc (.ref s.heap.objs.size) (.ref a) (.ref s.heap.objs.size)) _ _ _
 unfold fc
 refine aa (fL hT ?_)
 rw [if_neg (by rw [h1]; decide)]
 refine aa (HR (s:={s with heap:=s.heap.push {cls:= .type "list",data:= .seq ([]:List Value).toArray}}) S hg1 ?_)
 refine aa (bM ?_)
 unfold xp
 have hT2:gY {s with heap:=(s.heap.push {cls:= .type "list",data:= .seq ([]:List Value).toArray}).push (nM w a ep es.size t 0)} (.ref a) "set":=⟨_,ag _ hg1,S.ex.1⟩
 refine aa (gT hT2 F.Kk ?_)
 generalize hid:("set.__len__":String)=id0
 dsimp only
 rw [show splitId id0=some ("set","__len__")from by subst hid; decide +kernel]
 subst hid
 dsimp only
 refine aa (fj (b:=true) hT2 (by rw [qt]; kernel_rfl) ?_)
 rw [if_neg (show ¬(!true)=true by decide)]
 refine eD (fun _=> ?_) fun hs=>(hs (by decide +kernel)).elim
 refine aa (fL hT2 (af ?_))
 have szl:(s.heap.push {cls:= .type "list",data:= .seq ([]:List Value).toArray}).objs.size=s.heap.objs.size+1:=cO ..
 have hne:s.heap.objs.size≠(s.heap.push {cls:= .type "list",data:= .seq ([]:List Value).toArray}).objs.size:=by rw [szl]; exact aJ (gz _)
 have hIa:(s.heap.push {cls:= .type "list",data:= .seq ([]:List Value).toArray}).objs.size≠a:=by rw [szl]; exact bY (cH hlt)
 have hL2:((s.heap.push {cls:= .type "list",data:= .seq ([]:List Value).toArray}).push (nM w a ep es.size t 0)).get? s.heap.objs.size=some {cls:= .type "list",data:= .seq ([]:List Value).toArray}:=ag _ hS₁
 have hI2:((s.heap.push {cls:= .type "list",data:= .seq ([]:List Value).toArray}).push (nM w a ep es.size t 0)).get? (s.heap.push {cls:= .type "list",data:= .seq ([]:List Value).toArray}).objs.size=some (nM w a ep es.size t 0):=az _ rfl
 have hk2: ∀b ob,s.heap.get? b=some ob->((s.heap.push {cls:= .type "list",data:= .seq ([]:List Value).toArray}).push (nM w a ep es.size t 0)).get? b=some ob:=fun b ob e=>ag _ (ag _ e)
 generalize hI0:(s.heap.push {cls:= .type "list",data:= .seq ([]:List Value).toArray}).objs.size=I0 at hne hIa hI2 szl ⊢
 generalize hH0:(s.heap.push {cls:= .type "list",data:= .seq ([]:List Value).toArray}).push (nM w a ep es.size t 0)=H0 at hL2 hI2 hk2 ⊢
 have hg0:=hk2 a o hg
 have fin: ∀(h':Heap) (c:Nat),bR s.heap.objs.size H0 h'->h'.get? s.heap.objs.size=some {cls:= .type "list",dict:=none,data:= .seq #[] c,slots:= #[]}->
   fK (model prog w) A (.builtin "list.extend.loop" ⟨[.ref s.heap.objs.size, .ref I0, .ref s.heap.objs.size], []⟩) (fun r s'=>match r with
       | vI (Flow.ret v)=>
        wpAny (model prog w) A
         (match v with
         | ak a=>do
          let __do_lift<-load a
          match __do_lift.data with
           | yz xs epoch=>pure xs.toList
           | x=>jk "internal:collect"
         | x=>jk "internal:collect")
         Q E s'
       | vI a=>False
       | Except.error e=>E e s') {s with heap:=h'}:=fun h' c sb hl=>by
  refine codeAny_extend_loopS ((Dp (A:=A.in1) (by simpa using hh) S hIa).toS) (by have:=S.mw; rw [eA]; omega) s.heap.objs.size (by simp only [aO,dR,or_false,not_or]; exact⟨hne,bY hlt⟩) _ es.size 0 _ #[] c (by omega) (bN _)
   ⟨(sb.2 I0 hne.symm).trans hI2,(sb.2 a (aJ hlt)).trans hg0,bN _⟩ hl (ItemsOf.nil _) fun s' acc c' hm hS' hacc=> ?_
  dsimp only
  refine aa (wpAny_load hS' ?_)
  refine af ?_
  obtain⟨h2,g',d',tk',os'⟩:=s'
  have eg:g'=s.gens:=hm.gens
  have ed:d'=s.drawn:=hm.drawn
  have eo:os'=s.os:=hm.os
  subst eg; subst ed; subst eo
  refine hQ h2 tk' acc.toList (av hS') (fun b ob e=> ?_) ?_
  ·have hb:=av e
   refine hm.heap b ob ?_ ((sb.2 b (aJ hb)).trans (hk2 b ob e))
   simp only [aO,dR,or_false,not_or]
   exact⟨aJ hb,by rw [szl]; exact aJ (cH hb)⟩
  ·have e:acc.toList=(mh w a ep es).toList.map (·.2):=by
    apply eV
    intro i
    rw [aA]
    by_cases hi:i < es.size
    ·have hi2:i < acc.size:=by rw [hacc.1]; exact hi
     have h1:acc[i]? =some acc[i]:=di hi2
     obtain⟨e,he,hv⟩:=hacc.2 i _ h1
     have h3:acc.toList[i]? =some acc[i]:=by rw [bD]; exact h1
     have h4:(mh w a ep es).toList[i]? =some e:=by simpa using he
     rw [h3,h4,hv]
     rfl
    ·have h1:acc.toList[i]? =none:=bt (by rw [aj,hacc.1]; omega)
     have h2:(mh w a ep es).toList[i]? =none:=bt (by rw [aj,ui]; omega)
     rw [h1,h2]
     rfl
   rw [e]
   exact(z_ w a ep es).map _
 refine eD (fun _=> ?_) fun _=> ?_
 ·refine aa (fw ?_)
  unfold BK
  refine aa (aa (fW hL2 rfl ?_ (by show 0<=_; omega) (by show 1<=_; rw [eA]; omega)))
  have hL3:=eE hL2 fun x=>x.push aR
  refine fW hL3 rfl ?_ (by show 1<=_; rw [eA]; omega) (by show 0<=_; omega)
  have hL4:=eE hL3 fun x=>x.pop
  exact af ⟨dW cL _,fin _ _ ((bB ..).trans (bB ..)) hL4⟩
 ·exact af ⟨dW cL _,fin _ _ (dZ _ _) hL2⟩
end
end Z
namespace Z
open PySem PySem.Spec PySem.W PyProof.Rows
def PR(n:Nat)(p:Array Nat):Prop:=p.toList.Perm (bH n)
theorem PR.lt{n:Nat}{p:Array Nat}(hn:0 < n)(h:PR n p)(i:Nat):p.getD i 0 < n:=by
 by_cases hi:i < p.size
 ·have:p.getD i 0=p[i]:=by simp [r8,hi]
  rw [this]
  exact gw.mp (h.mem_iff.mp (by simp))
 ·have:p.getD i 0=0:=by simp [r8,hi]
  rw [this]; exact hn
theorem PR.rev{n:Nat}{p:Array Nat}(h:PR n p)(i j:Nat):PR n (kas_rev p i j):=gU (mirror_perm p i j _).toList h
theorem PR.bub{n:Nat}{p:Array Nat}(h:PR n p)(i j:Nat):PR n (bubble p i j):=gU (bubble_perm p i j).toList h
section
variable {prog:aq}{w:World}{A:bA}{E:Value->ai->Prop}{s:ai}
def vZ(prog:aq)(w:World)(h:Heap)(vs:List Value):Prop:= ∀v∈vs, ∃ks b,v=ak b/\TK prog w h ks b/\ks≠ []
theorem vZ.keep{h h':Heap}{vs:List Value}(x:vZ prog w h vs)(k: ∀b ob,(∃v∈vs,v=ak b)->h.get? b=some ob->h'.get? b=some ob):vZ prog w h' vs:=fun v hv=>by
 obtain⟨ks,b,rfl,hk,hne⟩:=x v hv
 exact⟨ks,b,rfl,hk.keep fun o e=>k b o ⟨_,hv,rfl⟩ e,hne⟩
theorem vZ.kat{h:Heap}: ∀{vs:List Value},vZ prog w h vs-> ∃fs,KatTups h vs fs/\fs.length=vs.length/\ ∀v∈fs, ∃i t,v=gW i t
 | [],_=>⟨[],trivial,rfl,fun v hv=>by cases hv⟩
 | v::vs,x=>by
  obtain⟨ks,b,rfl,⟨o,items,n,ho,hc,hd,hi⟩,hne⟩:=x v (.head _)
  obtain⟨fs,h1,h2,h3⟩:=vZ.kat (vs:=vs) fun u hu=>x u (.tail _ hu)
  have hin:=xv hi
  have hlen:=hi.length
  obtain⟨items⟩:=items
  cases items with
  | nil=>exact absurd (nX.mp hlen) hne
  | cons f r=>
   refine⟨f::fs,⟨⟨b,o,_,n,rfl,ho,hc,hd,rfl⟩,h1⟩,by simp [h2],fun u hu=> ?_⟩
   rcases aO.mp hu with rfl | hu
   ·exact hin _ (.head _)
   ·exact h3 u hu
end
end Z
namespace Z
open PySem PySem.Spec PyProof.Rows L2
def JP(X:Cx)(ρ:fm)(e:Expr)(P:D->Prop):Prop:= ∀(M0:MP) (H0:Hp) (γ:List (D×V)) (α:Nat->Addr) (σ:St) (H:Hp) (Q:VK),Rep X.K M0 H0 γ α ρ σ H->
 (∀d v H',P d->bT H H'->Dn X.K (MM M0 ρ α) H' d v->Q v H')->tE X e σ H Q
section
variable {X:Cx}{ρ:fm}{M0:MP}{H0:Hp}{P:qD}{e a b:Expr}{d:D}{ds:List D}{pos pos' p p2 p3 p4 p5:Pos}
theorem aw.toP{R:D->Prop}(h:aw X ρ e d)(q:R d):JP X ρ e R:=fun M0 H0 γ α σ H Q r k=>h M0 H0 γ α σ H Q r fun v H' s x=>k d v H' q s x
def pairD(p:Int×Int):D:= .tup [.int p.1, .int p.2]
def uj(p:Int×Int):List V:= [.int p.1, .int p.2]
def yG(p:Int×Int):List Int:= [p.1,p.2]
theorem KS{pins:List (Addr×Obj)}{σ:St}{H:Hp}{s:ai}(I:Inv X pins σ H s){b:Addr}{p:Int×Int}(h:kq X.K H b (uj p)):TK X.prog X.w s.heap (yG p) b:=by
 obtain⟨its,r,⟨o,ho,hc,n,hd⟩,_⟩:=I.tuple h
 refine⟨o,its.toArray,n,ho,hc,hd, ?_⟩
 show lZ (fX X.prog X.w) [p.1,p.2] its
 cases r with
 | cons r1 r2=>
  cases r2 with
  | cons r2 r3=>
   cases r3
   obtain⟨t1,rfl⟩:=r1
   obtain⟨t2,rfl⟩:=r2
   exact .cons (intKind_is _ _ _ _) (.cons (intKind_is _ _ _ _) .nil)
theorem pairs_at{K:Frag}{M:MP}{H:Hp}: ∀{ps:List (Int×Int)} {xs:List V},cN K M H (ps.map pairD) xs-> ∃T:Nat->Addr, ∀(j:Nat) (p:Int×Int),ps[j]? =some p->xs[j]? =some (.ref (T j))/\kq K H (T j) (uj p)
 | [],_,_=>⟨fun _=>0,fun j p h=>by simp at h⟩
 | p::ps,xs,⟨v,r,e,⟨a,ys,hv,sq,y1,r1,e1,h1,y2,r2,e2,h2,e3⟩,h⟩=>by
  obtain⟨T,hT⟩:=pairs_at h
  refine⟨fun j=>match j with | 0=>a | j+1=>T j,fun j q hq=> ?_⟩
  subst e
  cases j with
  | zero=>
   have:p=q:=by simpa using hq
   subst this
   have e4:ys=uj p:=by
    rw [e1,e2,e3,show y1=V.int p.1 from h1,show y2=V.int p.2 from h2]
    rfl
   rw [e4]at sq
   exact⟨by rw [hv]; rfl,sq⟩
  | succ j=>
   obtain⟨q1,q2⟩:=hT j q (by simpa using hq)
   exact⟨by simpa using q1,q2⟩
end
end Z
namespace Z
open PySem PySem.Spec PyProof.Rows
section
variable {prog:aq}{w:World}{A:bA}{E:Value->ai->Prop}{s:ai}
theorem ux{M:Model}{a:Addr}{Q:Option Obj->ai->Prop}(h: ∀r,Q r s):wpAny M A (E3 a) Q E s:=fun _ _ _=>h _
theorem jn{it t:Addr}{i:Nat}{items:Array Value}{x:Value}{Q:Value->ai->Prop}(hit:s.heap.IsTupleIter it t i)(ht:s.heap.IsTuple t items)(hx:items[i]? =some x)
  (hQ: ∀h',h'.IsTupleIter it t (i+1)->bR it s.heap h'->Q x {s with heap:=h'}):wpAny (model prog w) A (bU (.ref it)) Q E s:=by
 obtain⟨o,ho,hc,hd⟩:=id hit
 obtain⟨ol,hol,_,nl,hdl⟩:=ht
 have hT:s.TypeIs (.ref it) "tuple_iterator":=⟨o,ho,hc⟩
 unfold bU
 refine aa (cZ (name:=iF "__next__") hT jH (bS jH hT PySem.F.entry_tuple_iterator_next ?_ (PySem.F.args_tuple_iterator_next_1 _)))
 show wpAny _ _ (field (.ref it) 0 >>=_) _ _ s
 refine aa (bK ho hd (x:= .ref t) rfl ?_)
 show wpAny _ _ (if(ak t==aR)=true then _ else _) _ _ s
 rw [if_neg (show ¬((ak t==aR)=true)from aF)]
 show wpAny _ _ (field (.ref it) 1 >>=_) _ _ s
 refine aa (bK ho hd (x:= .int i 0) rfl ?_)
 show wpAny _ _ (seqItems? (.ref t) >>=_) _ _ s
 refine aa (dX hol hdl ?_)
 simp only [cW,hx]
 refine aa (dC ho hd (by simp) (af ⟨x,rfl,af (hQ _ ?_ (bB ..))⟩))
 exact⟨_,dj _ ho (jT (gP hd _)),(Obj.cls_mapFields ..).trans hc,by rw [gP hd]; simp [eS]⟩
theorem i5{it t:Addr}{i:Nat}{items:Array Value}{Q:Value->ai->Prop}(hh:A.handled=none)(hit:s.heap.IsTupleIter it t i)(ht:s.heap.IsTuple t items)(hx:items[i]? =none)
  (hE: ∀h' e,E1 it s.heap h'->(∃o,h'.get? e=some o/\o.cls= .type "StopIteration")->E (.ref e) {s with heap:=h'}):wpAny (model prog w) A (bU (.ref it)) Q E s:=by
 obtain⟨o,ho,hc,hd⟩:=id hit
 obtain⟨ol,hol,_,nl,hdl⟩:=ht
 have hT:s.TypeIs (.ref it) "tuple_iterator":=⟨o,ho,hc⟩
 unfold bU
 refine aa (cZ (name:=iF "__next__") hT jH (bS jH hT PySem.F.entry_tuple_iterator_next ?_ (PySem.F.args_tuple_iterator_next_1 _)))
 show wpAny _ _ (field (.ref it) 0 >>=_) _ _ s
 refine aa (bK ho hd (x:= .ref t) rfl ?_)
 show wpAny _ _ (if(ak t==aR)=true then _ else _) _ _ s
 rw [if_neg (show ¬((ak t==aR)=true)from aF)]
 show wpAny _ _ (field (.ref it) 1 >>=_) _ _ s
 refine aa (bK ho hd (x:= .int i 0) rfl ?_)
 show wpAny _ _ (seqItems? (.ref t) >>=_) _ _ s
 refine aa (dX hol hdl ?_)
 simp only [cW,hx]
 refine aa (fw (aa (dC ho hd (by simp) ?_)))
 show wpAny _ _ (vH (.type "StopIteration") [] >>=_) _ _ _
 refine aa ?_
 simp only [vH,newTuple]
 refine aa (bw ?_ (by size_fits))
 refine aa (m:=ir _ _) (vN (a:=aR) (by first | rfl | (simp only [ir]; rfl)) ?_)
 refine bw ?_ (by size_fits)
 simp only [raiseNew]
 refine aa (As ?_)
 rw [show A.in1.handled=none from hh]
 refine aa (af (E2 ?_))
 exact hE _ _ (((bB ..).extBut.push _).push _) ⟨_,az _ rfl,rfl⟩
def qz(h:Heap)(z TI TO i1 i2:Addr):Prop:=(∃f0 f1,h.get? z=some {cls:= .type "zip",dict:=none,data:= .fields #[f0, .bool f1, .bool false, .ref TI, .ref TO],slots:= #[]}/\(f0= .none\/ ∃T:Nat,f0=eS T))/\l_ h TI (.ref i1) (.ref i2)/\ ∃a b,l_ h TO a b
structure Mz(z TI TO i1 i2:Addr):Prop where
 TIz:TI≠z
 TOz:TO≠z
 i1z:i1≠z
 i2z:i2≠z
 TITO:TI≠TO
 TIi1:TI≠i1
 TIi2:TI≠i2
 TOi1:TO≠i1
 TOi2:TO≠i2
 i12:i1≠i2
theorem C3{z TI TO i1 i2 t1 t2:Addr}{k:Nat}{xs ys:Array Value}{x y:Value}{Q:Value->ai->Prop}(D:Mz z TI TO i1 i2)(D1:t1≠z/\t1≠TO/\t1≠i1/\t1≠i2)(D2:t2≠z/\t2≠TO/\t2≠i1/\t2≠i2)(hZ:qz s.heap z TI TO i1 i2)
  (h1:s.heap.IsTupleIter i1 t1 k)(h2:s.heap.IsTupleIter i2 t2 k)(ht1:s.heap.IsTuple t1 xs)(ht2:s.heap.IsTuple t2 ys)(hx:xs[k]? =some x)(hy:ys[k]? =some y)
  (hQ: ∀h',qz h' z TI TO i1 i2->h'.IsTupleIter i1 t1 (k+1)->h'.IsTupleIter i2 t2 (k+1)->l_ h' s.heap.objs.size x y->
   (∀c o,c≠z->c≠TO->c≠i1->c≠i2->s.heap.get? c=some o->h'.get? c=some o)->Q (.ref s.heap.objs.size) {s with heap:=h'}):
  wpAny (model prog w) A (dF.«zip.__next__» ⟨[.ref z], []⟩) (fun fin s'=> ∃v,fin= .done (.ret v)/\Q v s') E s:=by
 obtain⟨⟨f0,f1,hz,hf0⟩,hTI,a,b,hTO⟩:=hZ
 have eb: ∀{h h':Heap} {c t:Addr} {j:Nat} {d:Addr},h.IsTupleIter c t j->bR d h h'->c≠d->h'.IsTupleIter c t j:=fun{h h' c t j d} ⟨o,e,r⟩ sb n=>⟨o,(sb.2 c n).trans e,r⟩
 have et: ∀{h h':Heap} {t:Addr} {is:Array Value} {d:Addr},h.IsTuple t is->bR d h h'->t≠d->h'.IsTuple t is:=fun{h h' t is d} ⟨o,e,r⟩ sb n=>⟨o,(sb.2 t n).trans e,r⟩
 have free:wpAny (model prog w) A (dD (.ref z)) (fun fr s1=> ∃h' f1',s1={s with heap:=h'}/\bR z s.heap h'/\h'.get? z=some {cls:= .type "zip",dict:=none,data:= .fields #[f0, .bool f1', .bool false, .ref TI, .ref TO],slots:= #[]}) E s:=by
  unfold dD
  have es:s={s with heap:=s.heap}:=by cases s; rfl
  rcases hf0 with rfl | ⟨T,rfl⟩
  ·exact aa (bK hz rfl (x:= .none) rfl (af ⟨s.heap,f1,es,dZ _ _,hz⟩))
  ·refine aa (bK hz rfl (x:=eS T) rfl ?_)
   show wpAny _ _ (do
    if(<-E3 (T:Int).toNat).isNone then return true
    if(<-field (.ref z) 1) != .bool true then iq (.ref z) 1 (.bool true)
    return false) _ _ _
   refine aa (ux fun r=> ?_)
   cases r with
   | none=>
    simp only [Option.isNone_none,if_true]
    exact af ⟨s.heap,f1,es,dZ _ _,hz⟩
   | some ob=>
    simp only [Option.isNone_some,bo,if_false]
    refine aa (bK hz rfl (x:= .bool f1) rfl ?_)
    refine eD (fun _=> ?_) fun _=>af ⟨s.heap,f1,es,dZ _ _,hz⟩
    exact aa (cq hz (by simp) fun h₁ hz₁ hs₁=>af ⟨h₁,true,rfl,hs₁,hz₁⟩)
 show wpAny _ _ (field (.ref z) 2 >>=_) _ _ _
 refine aa (bK hz rfl (x:= .bool false) rfl ?_)
 show wpAny _ _ (field (.ref z) 3 >>=_) _ _ _
 refine aa (bK hz rfl (x:= .ref TI) rfl ?_)
 refine aa (dX hTI rfl ?_)
 show wpAny _ _ (dD (.ref z) >>=_) _ _ _
 refine aa (bW free (fun fr s1 hfr=> ?_) fun _ _ x=>x)
 obtain⟨h₀,f1',rfl,hs₀,hz₀⟩:=hfr
 have hTO₀:l_ h₀ TO a b:=(hs₀.2 _ D.TOz).trans hTO
 have h1₀:=eb h1 hs₀ D.i1z
 have h2₀:=eb h2 hs₀ D.i2z
 have ht1₀:=et ht1 hs₀ D1.1
 have ht2₀:=et ht2 hs₀ D2.1
 have hTI₀:l_ h₀ TI (.ref i1) (.ref i2):=(hs₀.2 _ D.TIz).trans hTI
 have hsz₀:h₀.objs.size=s.heap.objs.size:=hs₀.1
 cases fr with
 | true=>
  simp only [if_true]
  refine aa (fw ?_)
  refine aa (bK hz₀ rfl (x:= .ref TO) rfl ?_)
  refine aa (cq hz₀ (by simp) fun h₁ hz₁ hs₁=> ?_)
  refine aa ?_
  simp only [KC,List.zipIdx_nil,dg,gA]
  refine aa (aa (Au ?_))
  show wpAny _ _ (bU (.ref i1) >>=_) _ _ _
  refine aa (jn (eb h1₀ hs₁ D.i1z) (et ht1₀ hs₁ D1.1) hx fun h₂ h1₂ hs₂=>af ?_)
  have hTO₂:l_ h₂ TO a b:=(hs₂.2 _ D.TOi1).trans ((hs₁.2 _ D.TOz).trans hTO₀)
  refine aa (dX hTO₂ rfl ?_)
  refine aa (E4 hTO₂ fun h₃ hTO₃ hs₃=> ?_)
  replace hTO₃:l_ h₃ TO x b:=hTO₃
  refine aa (E5 (af ?_))
  refine aa (aa (Au ?_))
  show wpAny _ _ (bU (.ref i2) >>=_) _ _ _
  refine aa (jn (eb (eb (eb h2₀ hs₁ D.i2z) hs₂ D.i12.symm) hs₃ D.TOi2.symm) (et (et (et ht2₀ hs₁ D2.1) hs₂ D2.2.2.1) hs₃ D2.2.1) hy fun h₄ h2₄ hs₄=>af ?_)
  have hTO₄:l_ h₄ TO x b:=(hs₄.2 _ D.TOi2).trans hTO₃
  refine aa (dX hTO₄ rfl ?_)
  refine aa (E4 hTO₄ fun h₅ hTO₅ hs₅=> ?_)
  replace hTO₅:l_ h₅ TO x y:=hTO₅
  refine aa (E5 (af (af ?_)))
  refine aa (dX hTO₅ rfl ?_)
  refine aa (qu ?_)
  have hsz:h₅.objs.size=s.heap.objs.size:=by rw [hs₅.1,hs₄.1,hs₃.1,hs₂.1,hs₁.1,hsz₀]
  have k05: ∀c,c≠z->c≠TO->c≠i1->c≠i2->h₅.get? c=s.heap.get? c:=fun c c1 c2 c3 c4=>by
   rw [hs₅.2 c c2,hs₄.2 c c4,hs₃.2 c c2,hs₂.2 c c3,hs₁.2 c c1,hs₀.2 c c1]
  have hz₅:h₅.get? z=h₁.get? z:=by rw [hs₅.2 z D.TOz.symm,hs₄.2 z D.i2z.symm,hs₃.2 z D.TOz.symm,hs₂.2 z D.i1z.symm]
  rw [hz₁]at hz₅
  have h1₅:h₅.IsTupleIter i1 t1 (k+1):=eb (eb (eb h1₂ hs₃ D.TOi1.symm) hs₄ D.i12) hs₅ D.TOi1.symm
  have h2₅:h₅.IsTupleIter i2 t2 (k+1):=eb h2₄ hs₅ D.TOi2.symm
  show wpAny _ _ (Builtin.SmallTypes.ownedTupleHandOut (.ref z) (.ref h₅.objs.size) >>=_) _ _ _
  refine aa ?_
  unfold Builtin.SmallTypes.ownedTupleHandOut
  have hz₆:(h₅.push {cls:= .type "tuple",data:= .seq #[x,y]}).get? z=_:=ag _ hz₅
  refine aa (cq hz₆ (by simp) fun h₇ hz₇ hs₇=> ?_)
  refine cq hz₇ (by simp) fun h₈ hz₈ hs₈=> ?_
  have up: ∀c o,c≠z->h₅.get? c=some o->h₈.get? c=some o:=fun c o c1 e=>(hs₈.2 c c1).trans ((hs₇.2 c c1).trans (ag _ e))
  have hzlt:z < h₅.objs.size:=av hz₅
  have hT₈:l_ h₈ h₅.objs.size x y:=(hs₈.2 _ (bY hzlt)).trans ((hs₇.2 _ (bY hzlt)).trans (az _ rfl))
  refine af ⟨_,rfl, ?_⟩
  show Q (.ref h₅.objs.size) _
  rw [hsz]at hT₈ ⊢
  refine hQ h₈ ⟨⟨_,_,hz₈, .inr ⟨h₅.objs.size,rfl⟩⟩,up _ _ D.TIz ((k05 TI D.TIz D.TITO D.TIi1 D.TIi2).trans hTI),x,y,up _ _ D.TOz hTO₅⟩ ?_ ?_ hT₈ fun c o c1 c2 c3 c4 e=>up c o c1 ((k05 c c1 c2 c3 c4).trans e)
  ·obtain⟨o,e,r⟩:=h1₅; exact⟨o,up _ _ D.i1z e,r⟩
  ·obtain⟨o,e,r⟩:=h2₅; exact⟨o,up _ _ D.i2z e,r⟩
 | false=>
  simp only [bo,if_false]
  rw [<-gO]
  refine aa ?_
  show wpAny _ _ (forIn [ak i1,ak i2] _ _) _ _ _
  simp only [dg,gA]
  refine aa (aa (bM ?_))
  show wpAny _ _ (bU (.ref i1) >>=_) _ _ _
  refine aa (jn h1₀ ht1₀ hx fun h₂ h1₂ hs₂=>af (af ?_))
  refine aa (aa (bM ?_))
  show wpAny _ _ (bU (.ref i2) >>=_) _ _ _
  refine aa (jn (eb h2₀ hs₂ D.i12.symm) (et ht2₀ hs₂ D2.2.2.1) hy fun h₄ h2₄ hs₄=>af (af (af ?_)))
  dsimp only
  refine aa (qu (af ⟨_,rfl, ?_⟩) (by show 2<=sizeLine; decide))
  have hsz:h₄.objs.size=s.heap.objs.size:=by rw [hs₄.1,hs₂.1,hsz₀]
  show Q (.ref h₄.objs.size) {s with heap:=h₄.push {cls:= .type "tuple",data:= .seq #[x,y]}}
  have hT:l_ (h₄.push {cls:= .type "tuple",data:= .seq #[x,y]}) h₄.objs.size x y:=az _ rfl
  have up: ∀c,c≠z->c≠i1->c≠i2-> ∀o,s.heap.get? c=some o->(h₄.push {cls:= .type "tuple",data:= .seq #[x,y]}).get? c=some o:=fun c c1 c2 c3 o e=>ag _ ((hs₄.2 c c3).trans ((hs₂.2 c c2).trans ((hs₀.2 c c1).trans e)))
  have hz₄:h₄.get? z=h₀.get? z:=by rw [hs₄.2 z D.i2z.symm,hs₂.2 z D.i1z.symm]
  rw [hz₀]at hz₄
  rw [hsz]at hT ⊢
  refine hQ _ ⟨⟨_,_,ag _ hz₄,hf0⟩,up _ D.TIz D.TIi1 D.TIi2 _ hTI,a,b,up _ D.TOz D.TOi1 D.TOi2 _ hTO⟩ ?_ ?_ hT fun c o c1 _ c3 c4 e=>up c c1 c3 c4 o e
  ·obtain⟨o,e,r⟩:=eb h1₂ hs₄ D.i12; exact⟨o,ag _ e,r⟩
  ·obtain⟨o,e,r⟩:=h2₄; exact⟨o,ag _ e,r⟩
theorem Gi{z TI TO i1 i2 t1 t2:Addr}{k:Nat}{xs ys:Array Value}{Q:Fin->ai->Prop}(hh:A.handled=none)(D:Mz z TI TO i1 i2)(D1:t1≠z/\t1≠TO/\t1≠i1/\t1≠i2)(D2:t2≠z/\t2≠TO/\t2≠i1/\t2≠i2)(hZ:qz s.heap z TI TO i1 i2)
  (h1:s.heap.IsTupleIter i1 t1 k)(h2:s.heap.IsTupleIter i2 t2 k)(ht1:s.heap.IsTuple t1 xs)(ht2:s.heap.IsTuple t2 ys)(hend:xs[k]? =none\/ys[k]? =none)
  (hE: ∀h' e,(∀c o,c≠z->c≠TO->c≠i1->c≠i2->s.heap.get? c=some o->h'.get? c=some o)->(∃o,h'.get? e=some o/\o.cls= .type "StopIteration")->E (.ref e) {s with heap:=h'}):
  wpAny (model prog w) A (dF.«zip.__next__» ⟨[.ref z], []⟩) Q E s:=by
 obtain⟨⟨f0,f1,hz,hf0⟩,hTI,a,b,hTO⟩:=hZ
 have eb: ∀{h h':Heap} {c t:Addr} {j:Nat} {d:Addr},h.IsTupleIter c t j->bR d h h'->c≠d->h'.IsTupleIter c t j:=fun{h h' c t j d} ⟨o,e,r⟩ sb n=>⟨o,(sb.2 c n).trans e,r⟩
 have et: ∀{h h':Heap} {t:Addr} {is:Array Value} {d:Addr},h.IsTuple t is->bR d h h'->t≠d->h'.IsTuple t is:=fun{h h' t is d} ⟨o,e,r⟩ sb n=>⟨o,(sb.2 t n).trans e,r⟩
 have free:wpAny (model prog w) A (dD (.ref z)) (fun fr s1=> ∃h' f1',s1={s with heap:=h'}/\bR z s.heap h'/\h'.get? z=some {cls:= .type "zip",dict:=none,data:= .fields #[f0, .bool f1', .bool false, .ref TI, .ref TO],slots:= #[]}) E s:=by
  unfold dD
  have es:s={s with heap:=s.heap}:=by cases s; rfl
  rcases hf0 with rfl | ⟨T,rfl⟩
  ·exact aa (bK hz rfl (x:= .none) rfl (af ⟨s.heap,f1,es,dZ _ _,hz⟩))
  ·refine aa (bK hz rfl (x:=eS T) rfl ?_)
   show wpAny _ _ (do
    if(<-E3 (T:Int).toNat).isNone then return true
    if(<-field (.ref z) 1) != .bool true then iq (.ref z) 1 (.bool true)
    return false) _ _ _
   refine aa (ux fun r=> ?_)
   cases r with
   | none=>
    simp only [Option.isNone_none,if_true]
    exact af ⟨s.heap,f1,es,dZ _ _,hz⟩
   | some ob=>
    simp only [Option.isNone_some,bo,if_false]
    refine aa (bK hz rfl (x:= .bool f1) rfl ?_)
    refine eD (fun _=> ?_) fun _=>af ⟨s.heap,f1,es,dZ _ _,hz⟩
    exact aa (cq hz (by simp) fun h₁ hz₁ hs₁=>af ⟨h₁,true,rfl,hs₁,hz₁⟩)
 show wpAny _ _ (field (.ref z) 2 >>=_) _ _ _
 refine aa (bK hz rfl (x:= .bool false) rfl ?_)
 show wpAny _ _ (field (.ref z) 3 >>=_) _ _ _
 refine aa (bK hz rfl (x:= .ref TI) rfl ?_)
 refine aa (dX hTI rfl ?_)
 show wpAny _ _ (dD (.ref z) >>=_) _ _ _
 refine aa (bW free (fun fr s1 hfr=> ?_) fun _ _ x=>x)
 obtain⟨h₀,f1',rfl,hs₀,hz₀⟩:=hfr
 have hTO₀:l_ h₀ TO a b:=(hs₀.2 _ D.TOz).trans hTO
 have h1₀:=eb h1 hs₀ D.i1z
 have h2₀:=eb h2 hs₀ D.i2z
 have ht1₀:=et ht1 hs₀ D1.1
 have ht2₀:=et ht2 hs₀ D2.1
 cases fr with
 | true=>
  simp only [if_true]
  refine aa (fw ?_)
  refine aa (bK hz₀ rfl (x:= .ref TO) rfl ?_)
  refine aa (cq hz₀ (by simp) fun h₁ hz₁ hs₁=> ?_)
  refine aa ?_
  simp only [KC,List.zipIdx_nil,dg,gA]
  refine aa (aa (Au ?_))
  show wpAny _ _ (bU (.ref i1) >>=_) _ _ _
  cases hx:xs[k]? with
  | none=>
   refine aa (i5 hh (eb h1₀ hs₁ D.i1z) (et ht1₀ hs₁ D1.1) hx fun h₂ e hs₂ he=> ?_)
   obtain⟨oe,hoe,hce⟩:=he
   have hz₂:=hs₂ _ _ D.i1z.symm hz₁
   have hez:e≠z:=fun x=>by subst x; rw [hz₂]at hoe; cases hoe; simp at hce
   refine cq hz₂ (by simp) fun h₃ _ hs₃=>hE h₃ e (fun c o c1 _ c3 _ x=>(hs₃.2 c c1).trans (hs₂ _ _ c3 ((hs₁.2 c c1).trans ((hs₀.2 c c1).trans x)))) ⟨oe,(hs₃.2 _ hez).trans hoe,hce⟩
  | some x=>
   have hy:ys[k]? =none:=by rcases hend with h | h; rw [hx]at h; cases h; exact h
   refine aa (jn (eb h1₀ hs₁ D.i1z) (et ht1₀ hs₁ D1.1) hx fun h₂ h1₂ hs₂=>af ?_)
   have hTO₂:l_ h₂ TO a b:=(hs₂.2 _ D.TOi1).trans ((hs₁.2 _ D.TOz).trans hTO₀)
   refine aa (dX hTO₂ rfl ?_)
   refine aa (E4 hTO₂ fun h₃ hTO₃ hs₃=> ?_)
   refine aa (E5 (af ?_))
   refine aa (aa (Au ?_))
   show wpAny _ _ (bU (.ref i2) >>=_) _ _ _
   refine aa (i5 hh (eb (eb (eb h2₀ hs₁ D.i2z) hs₂ D.i12.symm) hs₃ D.TOi2.symm) (et (et (et ht2₀ hs₁ D2.1) hs₂ D2.2.2.1) hs₃ D2.2.1) hy fun h₄ e hs₄ he=> ?_)
   obtain⟨oe,hoe,hce⟩:=he
   have hz₃:h₃.get? z=h₁.get? z:=by rw [hs₃.2 z D.TOz.symm,hs₂.2 z D.i1z.symm]
   rw [hz₁]at hz₃
   have hz₄:=hs₄ _ _ D.i2z.symm hz₃
   have hez:e≠z:=fun x=>by subst x; rw [hz₄]at hoe; cases hoe; simp at hce
   refine cq hz₄ (by simp) fun h₅ _ hs₅=>hE h₅ e (fun c o c1 c2 c3 c4 x=>(hs₅.2 c c1).trans (hs₄ _ _ c4 ((hs₃.2 c c2).trans ((hs₂.2 c c3).trans ((hs₁.2 c c1).trans ((hs₀.2 c c1).trans x)))))) ⟨oe,(hs₅.2 _ hez).trans hoe,hce⟩
 | false=>
  simp only [bo,if_false]
  rw [<-gO]
  refine aa ?_
  show wpAny _ _ (forIn [ak i1,ak i2] _ _) _ _ _
  simp only [dg,gA]
  refine aa (aa (bM ?_))
  show wpAny _ _ (bU (.ref i1) >>=_) _ _ _
  cases hx:xs[k]? with
  | none=>exact aa (i5 hh h1₀ ht1₀ hx fun h₂ e hs₂ he=>hE h₂ e (fun c o c1 _ c3 _ x=>hs₂ _ _ c3 ((hs₀.2 c c1).trans x)) he)
  | some x=>
   have hy:ys[k]? =none:=by rcases hend with h | h; rw [hx]at h; cases h; exact h
   refine aa (jn h1₀ ht1₀ hx fun h₂ h1₂ hs₂=>af (af ?_))
   refine aa (aa (bM ?_))
   show wpAny _ _ (bU (.ref i2) >>=_) _ _ _
   exact aa (i5 hh (eb h2₀ hs₂ D.i12.symm) (et ht2₀ hs₂ D2.2.2.1) hy fun h₄ e hs₄ he=>hE h₄ e (fun c o c1 _ c3 c4 x=>hs₄ _ _ c4 ((hs₂.2 c c3).trans ((hs₀.2 c c1).trans x))) he)
abbrev Oh(h:Heap)(t1:Addr):Heap:=h.push {cls:= .type "tuple_iterator",data:= .fields #[.ref t1, .int 0 0]}
abbrev N9(h:Heap)(t1 t2:Addr):Heap:=(Oh h t1).push {cls:= .type "tuple_iterator",data:= .fields #[.ref t2, .int 0 0]}
abbrev Oe(h:Heap)(t1 t2:Addr):Heap:=(N9 h t1 t2).push {cls:= .type "tuple",data:= .seq #[.ref h.objs.size, .ref (Oh h t1).objs.size]}
abbrev Ob(h:Heap)(t1 t2:Addr):Heap:=(Oe h t1 t2).push {cls:= .type "tuple",data:= .seq #[.none, .none]}
abbrev MC(h:Heap)(t1 t2:Addr):Heap:=(Ob h t1 t2).push {cls:= .type "zip",data:= .fields #[.none, .bool false, .bool false, .ref (N9 h t1 t2).objs.size, .ref (Oe h t1 t2).objs.size]}
theorem A_(t1 t2:Addr)(xs ys:Array Value):
  Meets (dF.«zip.__new__» ⟨[.type "zip", .ref t1, .ref t2], []⟩) (fun _ R s=>s.heap.IsTuple t1 xs/\s.heap.IsTuple t2 ys/\R (.ok (.ret (.ref (Ob s.heap t1 t2).objs.size))) {s with heap:=MC s.heap t1 t2}):=
 .of_wp fun prog w A R s h=>by
  obtain⟨hp,g,d,tk,os⟩:=s; obtain⟨hl1,hl2,h⟩:=h
  have hsub:=sub_zip
  have hL1:Heap.IsTuple (E6 ⟨hp,g,d,tk,os⟩) t1 xs:=hl1
  have hL2:Heap.IsTuple (E6 ⟨hp.push {cls:= .type "tuple_iterator",data:= .fields #[.ref t1, .int 0 0]},g,d,tk,os⟩) t2 ys:=by
   obtain⟨o,e,r⟩:=hl2; exact⟨o,ag _ e,r⟩
  wp_walk using IK hL1,IK hL2
  exact⟨_,rfl,h⟩
theorem Dl{t1 t2:Addr}{xs ys:Array Value}{Q:Value->ai->Prop}(hl1:s.heap.IsTuple t1 xs)(hl2:s.heap.IsTuple t2 ys)
  (h: ∀h',qz h' (s.heap.objs.size+4) (s.heap.objs.size+2) (s.heap.objs.size+3) s.heap.objs.size (s.heap.objs.size+1)->h'.IsTupleIter s.heap.objs.size t1 0->h'.IsTupleIter (s.heap.objs.size+1) t2 0->
   (∀c o,s.heap.get? c=some o->h'.get? c=some o)->Q (.ref (s.heap.objs.size+4)) {s with heap:=h'}):
  wpAny (model prog w) A (call (.type "zip") [.ref t1, .ref t2]) Q E s:=by
 refine callType_new PySem.F.called_zip (by decide) (PySem.F.typeCall_zip_2 _ _) (PySem.F.newCall_zip_2 _ _) (fun obj=>PySem.F.args_object_init_3 obj _ _) PySem.F.entry_zip_new (A_ t1 t2 xs ys) ⟨hl1,hl2, ?_⟩
 have z1:(Oh s.heap t1).objs.size=s.heap.objs.size+1:=cO ..
 have z2:(N9 s.heap t1 t2).objs.size=s.heap.objs.size+2:=by rw [cO,z1]
 have z3:(Oe s.heap t1 t2).objs.size=s.heap.objs.size+3:=by rw [cO,z2]
 have z4:(Ob s.heap t1 t2).objs.size=s.heap.objs.size+4:=by rw [cO,z3]
 have g5:(MC s.heap t1 t2).get? (Ob s.heap t1 t2).objs.size=some _:=az _ rfl
 have g4:(MC s.heap t1 t2).get? (Oe s.heap t1 t2).objs.size=some _:=ag _ (az _ rfl)
 have g3:(MC s.heap t1 t2).get? (N9 s.heap t1 t2).objs.size=some _:=ag _ (ag _ (az _ rfl))
 have g2:(MC s.heap t1 t2).get? (Oh s.heap t1).objs.size=some _:=ag _ (ag _ (ag _ (az _ rfl)))
 have g1:(MC s.heap t1 t2).get? s.heap.objs.size=some _:=ag _ (ag _ (ag _ (ag _ (az _ rfl))))
 show _/\_
 rw [z2,z3,z4]at g5
 rw [z1,z2]at g3
 rw [z3]at g4
 rw [z1]at g2
 rw [z4]
 exact⟨⟨_,g5,rfl⟩,h _ ⟨⟨_,_,g5, .inl rfl⟩,g3,_,_,g4⟩ ⟨_,g1,rfl,rfl⟩ ⟨_,g2,rfl,rfl⟩ fun c o x=>ag _ (ag _ (ag _ (ag _ (ag _ x))))⟩
end
end Z
namespace Z
open PySem PySem.Spec PyProof.Rows L2
section
variable {X:Cx}{pins:List (Addr×Obj)}{σ:St}{H H':Hp}{s:ai}{h':Heap}{fp:List Addr}
theorem zY{t':Nat}(I:Inv X pins σ H s)(hf: ∀b∈fp,kc X pins H b)(k: ∀b u,b∉fp->s.heap.get? b=some u->h'.get? b=some u)(hs:bT H H')(hn: ∀b o,s.heap.get? b=some o->H b=none->H' b=none)
  (eI:pG X.prog X.w H' h'):Inv X pins σ H' {s with heap:=h',toks:=t'}:=by
 refine I.step (g':=s.gens) (d':=s.drawn) (ch:=fp) (fun b hb=> ?_) (fun b o _ _ hc e _=>k b o hc e) (fun b o _ _ hc e _=>⟨o.slots,k b o hc e⟩) (fun b o _ e n=>hn b o e n)
  (fun b o hc e=>⟨o,k b o hc e⟩) (fun b xs e=>hs b _ e) (fun b o u e=>hs b _ e) (fun b ps e=>⟨#[],by rw [hs b _ e]; simp⟩) (fun m hm=> ?_) eI I.bare
 ·obtain⟨f0,f1,f2,f3,f4,f5⟩:=hf b hb
  exact⟨f3,f1,f4,f5⟩
 ·obtain⟨o,es,ep,ho,r⟩:=hm
  exact⟨o,es,ep,k _ o (fun z=>(hf _ z).2.1 rfl) ho,r⟩
theorem He(I:Inv X pins σ H s)(hf: ∀b∈fp,kc X pins H b)(k: ∀b u,b∉fp->s.heap.get? b=some u->h'.get? b=some u):pG X.prog X.w H h':=fun b u e=>by
 have nf: ∀c v,H c=some v->c∉fp:=fun c v e z=>by rw [(hf c z).1]at e; cases e
 refine(I.eI b u e).stay (fun c v hc q=>k c v ?_ q) (fun _ q=>q) fun _ _ q=>q
 rcases hc with z | z
 ·rw [z]; exact nf b u e
 ·exact nf c _ z
theorem Ih{T:Addr}{o:HO}(I:Inv X pins σ H s)(hf: ∀b∈fp,kc X pins H b)(k: ∀b u,b∉fp->s.heap.get? b=some u->h'.get? b=some u)(hT:H T=none)(new:fR X.prog X.w (upd H T o) h' T o):pG X.prog X.w (upd H T o) h':=fun b u e=>by
 by_cases hb:b=T
 ·subst hb
  rw [bO]at e; cases e
  exact new
 ·rw [cD hb]at e
  have nf: ∀c v,H c=some v->c∉fp:=fun c v e z=>by rw [(hf c z).1]at e; cases e
  refine(I.eI b u e).stay (fun c v hc q=>k c v ?_ q) (fun c q=>bG hT c _ q) fun c _ q=>bG hT c _ q
  rcases hc with z | z
  ·rw [z]; exact nf b u e
  ·exact nf c _ z
theorem xZ{a b:Addr}{xs:List V}(I:Inv X pins σ H s)(hf:kc X pins H b)(h:kq X.K H a xs):a≠b:=fun e=>by
 subst e
 rcases h with(h | ⟨o,h⟩) | ⟨o,its,n,hk,_⟩
 ·rw [hf.1]at h; cases h
 ·rw [hf.1]at h; cases h
 ·have hb:=I.ok.mod.wR a o hk
  rcases hf.2.2.2.1 with z | z
  ·exact I.ok.rM a o hb z
  ·exact absurd (bf (av hb) (bE I.ok.yH z)) (dz _)
end
def Ut(K:Frag)(t1 t2:Addr):It:=
  ⟨fun i H=> ∃xs ys x y,kq K H t1 xs/\kq K H t2 ys/\xs[i]? =some x/\ys[i]? =some y,
   fun i H v H'=> ∃T x y,v= .ref T/\H T=none/\H'=upd H T (.tup [x,y])/\(∀xs,kq K H t1 xs->xs[i]? =some x)/\ ∀ys,kq K H t2 ys->ys[i]? =some y,
   fun i H=> ∃xs ys,kq K H t1 xs/\kq K H t2 ys/\(xs.length<=i\/ys.length<=i)⟩
section
variable {prog:aq}{w:World}{A:bA}{E:Value->ai->Prop}{s:ai}
theorem zq{z TI TO i1 i2 t1 t2:Addr}{k:Nat}{xs ys:Array Value}{x y:Value}{Q:Option Value->ai->Prop}(D:Mz z TI TO i1 i2)(D1:t1≠z/\t1≠TO/\t1≠i1/\t1≠i2)(D2:t2≠z/\t2≠TO/\t2≠i1/\t2≠i2)(hZ:qz s.heap z TI TO i1 i2)
  (h1:s.heap.IsTupleIter i1 t1 k)(h2:s.heap.IsTupleIter i2 t2 k)(ht1:s.heap.IsTuple t1 xs)(ht2:s.heap.IsTuple t2 ys)(hx:xs[k]? =some x)(hy:ys[k]? =some y)
  (hQ: ∀h',qz h' z TI TO i1 i2->h'.IsTupleIter i1 t1 (k+1)->h'.IsTupleIter i2 t2 (k+1)->l_ h' s.heap.objs.size x y->
   (∀c o,c≠z->c≠TO->c≠i1->c≠i2->s.heap.get? c=some o->h'.get? c=some o)->Q (some (.ref s.heap.objs.size)) {s with heap:=h'}):wpAny (model prog w) A (je (.ref z)) Q E s:=by
 obtain⟨⟨f0,f1,hz,_⟩,_⟩:=id hZ
 have hT:s.TypeIs (.ref z) "zip":=⟨_,hz,rfl⟩
 unfold je
 exact aa (nI (cZ (name:=iF "__next__") hT pj
  (bS pj hT F.entry_zip_next (C3 D D1 D2 hZ h1 h2 ht1 ht2 hx hy fun h' a1 a2 a3 a4 a5=>af (hQ h' a1 a2 a3 a4 a5)) (F.args_zip_next_1 _))))
theorem sE{z TI TO i1 i2 t1 t2:Addr}{k:Nat}{xs ys:Array Value}{Q:Option Value->ai->Prop}(hh:A.handled=none)(D:Mz z TI TO i1 i2)(D1:t1≠z/\t1≠TO/\t1≠i1/\t1≠i2)(D2:t2≠z/\t2≠TO/\t2≠i1/\t2≠i2)(hZ:qz s.heap z TI TO i1 i2)
  (h1:s.heap.IsTupleIter i1 t1 k)(h2:s.heap.IsTupleIter i2 t2 k)(ht1:s.heap.IsTuple t1 xs)(ht2:s.heap.IsTuple t2 ys)(hend:xs[k]? =none\/ys[k]? =none)
  (hQ: ∀h',(∀c o,c≠z->c≠TO->c≠i1->c≠i2->s.heap.get? c=some o->h'.get? c=some o)->Q none {s with heap:=h'}):wpAny (model prog w) A (je (.ref z)) Q E s:=by
 obtain⟨⟨f0,f1,hz,_⟩,_⟩:=id hZ
 have hT:s.TypeIs (.ref z) "zip":=⟨_,hz,rfl⟩
 unfold je
 refine aa (nI (cZ (name:=iF "__next__") hT pj
  (bS pj hT F.entry_zip_next (Gi hh D D1 D2 hZ h1 h2 ht1 ht2 hend fun h' e hk he=> ?_) (F.args_zip_next_1 _))))
 obtain⟨o,ho,hc⟩:=he
 refine aa (fj (T:="StopIteration") (b:=true) ⟨o,ho,hc⟩ yE ?_)
 exact af (hQ _ hk)
theorem sh{z TI TO i1 i2:Addr}{Q:Value->ai->Prop}(hZ:qz s.heap z TI TO i1 i2)(h:Q (.ref z) s):wpAny (model prog w) A (vD (.ref z)) Q E s:=by
 obtain⟨⟨f0,f1,hz,_⟩,_⟩:=id hZ
 have hT:s.TypeIs (.ref z) "zip":=⟨_,hz,rfl⟩
 refine jG hT F.slot_zip_iter (bS F.slot_zip_iter hT F.entry_zip_iter ?_ (F.args_zip_iter_1 _))
 show wpAny _ _ (ret (.ref z)) _ _ s
 exact af ⟨_,rfl,"zip",_,hT,pj.lookup,h⟩
end
theorem FR{P:aq}{w:World}{K:Frag}{x:Str}{px:Pos}{z TI TO i1 i2 t1 t2:Addr}(D:Mz z TI TO i1 i2):
  Turn P w K (.Name x px) (Ut K t1 t2) [z,TI,TO,i1,i2] z (fun i h=>qz h z TI TO i1 i2/\h.IsTupleIter i1 t1 i/\h.IsTupleIter i2 t2 i) where
 mem:=by simp
 obj:=fun i h ⟨⟨⟨f0,f1,hz,_⟩,hTI,a,b,hTO⟩,h1,h2⟩ c hc=>by
  have hc':c=z\/c=TI\/c=TO\/c=i1\/c=i2:=by simpa using hc
  rcases hc' with rfl | rfl | rfl | rfl | rfl
  ·exact⟨_,hz,fun v e=>by cases e⟩
  ·exact⟨_,hTI,fun v e=>by cases e⟩
  ·exact⟨_,hTO,fun v e=>by cases e⟩
  ·obtain⟨o,e,c,d⟩:=h1; exact⟨o,e,fun v z=>by rw [d]at z; cases z⟩
  ·obtain⟨o,e,c,d⟩:=h2; exact⟨o,e,fun v z=>by rw [d]at z; cases z⟩
 keep:=fun i h h' ⟨⟨⟨f0,f1,hz,q⟩,hTI,a,b,hTO⟩,h1,h2⟩ k=>
  ⟨⟨⟨f0,f1,k z (by simp) _ hz,q⟩,k TI (by simp) _ hTI,a,b,k TO (by simp) _ hTO⟩,h1.at fun o e=>k i1 (by simp) o e,h2.at fun o e=>k i2 (by simp) o e⟩
 item:=by
  intro X hP hw hK hc i pins s σ H E I hf ⟨hZ,h1,h2⟩ hg
  subst hP hw hK
  obtain⟨xs,ys,x0,y0,hq1,hq2,hx,hy⟩:=hg
  obtain⟨its1,rv1,p1,hz1⟩:=I.tuple hq1
  obtain⟨its2,rv2,p2,hz2⟩:=I.tuple hq2
  obtain⟨u,hu,ru⟩:=rv1.get hx
  obtain⟨v,hv,rv⟩:=rv2.get hy
  have n1: ∀b∈ [z,TI,TO,i1,i2],t1≠b:=fun b hb=>xZ I (hf b hb) hq1
  have n2: ∀b∈ [z,TI,TO,i1,i2],t2≠b:=fun b hb=>xZ I (hf b hb) hq2
  refine zq D ⟨n1 _ (by simp),n1 _ (by simp),n1 _ (by simp),n1 _ (by simp)⟩ ⟨n2 _ (by simp),n2 _ (by simp),n2 _ (by simp),n2 _ (by simp)⟩ hZ h1 h2 (show s.heap.IsTuple t1 its1.toArray from p1) (show s.heap.IsTuple t2 its2.toArray from p2) (x:=u) (y:=v) (by simpa using hu) (by simpa using hv) fun h' a1 a2 a3 a4 k=> ?_
  have kk: ∀b o,b∉ [z,TI,TO,i1,i2]->s.heap.get? b=some o->h'.get? b=some o:=fun b o hb e=>k b o (fun q=>hb (by simp [q])) (fun q=>hb (by simp [q])) (fun q=>hb (by simp [q])) (fun q=>hb (by simp [q])) e
  have I1:Inv X pins σ (upd H s.heap.objs.size (.tup [x0,y0])) {s with heap:=h'}:=zY (t':=s.toks) I hf kk (bG I.fresh) (fun b o e n=>by rw [cD (aJ (av e))]; exact n)
   (Ih I hf kk I.fresh ⟨by show 2<=sizeLine; decide, [u,v], .cons ru (.cons rv .nil),⟨_,a4,rfl,_,rfl⟩⟩)
  refine⟨_,rfl,af ⟨.ref s.heap.objs.size,_,I1,rfl,⟨s.heap.objs.size,x0,y0,rfl,I.fresh,rfl,fun zs hq=>by rw [I.tuple_inj hq hq1]; exact hx,fun zs hq=>by rw [I.tuple_inj hq hq2]; exact hy⟩,⟨a1,a2,a3⟩,fun b hb=> ?_⟩⟩
  have hbl:b < s.heap.objs.size:=by
   have hb':b=z\/b=TI\/b=TO\/b=i1\/b=i2:=by simpa using hb
   obtain⟨⟨f0,f1,hz,_⟩,hTI,a,b,hTO⟩:=hZ
   obtain⟨o1,e1,_⟩:=h1
   obtain⟨o2,e2,_⟩:=h2
   rcases hb' with rfl | rfl | rfl | rfl | rfl
   ·exact av hz
   ·exact av hTI
   ·exact av hTO
   ·exact av e1
   ·exact av e2
  rw [cD (aJ hbl)]
  exact(hf b hb).1
 done:=by
  intro X hP hw hK hc i pins s σ H E I hf ⟨hZ,h1,h2⟩ hg
  subst hP hw hK
  obtain⟨xs,ys,hq1,hq2,hx⟩:=hg
  obtain⟨its1,rv1,p1,hz1⟩:=I.tuple hq1
  obtain⟨its2,rv2,p2,hz2⟩:=I.tuple hq2
  have n1: ∀b∈ [z,TI,TO,i1,i2],t1≠b:=fun b hb=>xZ I (hf b hb) hq1
  have n2: ∀b∈ [z,TI,TO,i1,i2],t2≠b:=fun b hb=>xZ I (hf b hb) hq2
  have l1:=rv1.length
  have l2:=rv2.length
  refine sE (I.ok.hd hc) D ⟨n1 _ (by simp),n1 _ (by simp),n1 _ (by simp),n1 _ (by simp)⟩ ⟨n2 _ (by simp),n2 _ (by simp),n2 _ (by simp),n2 _ (by simp)⟩ hZ h1 h2 (show s.heap.IsTuple t1 its1.toArray from p1) (show s.heap.IsTuple t2 its2.toArray from p2) ?_ fun h' k=> ?_
  ·rcases hx with hx | hx
   ·exact .inl (by simp; omega)
   ·exact .inr (by simp; omega)
  have kk: ∀b o,b∉ [z,TI,TO,i1,i2]->s.heap.get? b=some o->h'.get? b=some o:=fun b o hb e=>k b o (fun q=>hb (by simp [q])) (fun q=>hb (by simp [q])) (fun q=>hb (by simp [q])) (fun q=>hb (by simp [q])) e
  exact⟨rfl,zY (t':=s.toks) I hf kk (bT.refl _) (fun b o e n=>n) (He I hf kk)⟩
 self:=fun _ _ _ _ _ st h=>sh st.1 h
def OK(K:Frag)(ta:TA):TI:=fun σ H R=>ta σ H fun vs H1=> ∃t1 t2,vs= [.ref t1, .ref t2]/\(∃xs,kq K H1 t1 xs)/\(∃ys,kq K H1 t2 ys)/\R (Ut K t1 t2) H1
section
variable {X:Cx}{ρ:fm}{e a b:Expr}{d:D}{ds es:List D}{p pos px:Pos}{x:Str}
theorem CZ:dE "zip"=some (.type "zip"):=by decide +kernel
theorem Lz{ta:TA}(hg:Gl X "zip")(hm:X.mg "zip"=none)(ha:PA X [a,b] ta)(hs:au [a,b] X.env= [(false,eval a X.env),(false,eval b X.env)]:=by rfl)(hs2:au [b] X.env= [(false,eval b X.env)]:=by rfl):
  PI X (.Name x px) (.Call (.Name "zip" p) [a,b] [] pos) (OK X.K ta):=by
 intro pins s σ H R I h
 refine Call_ (rB I hg hm CZ (kT (fg (ha pos pins s σ H _ I h) fun us s1 ⟨vs,H1,I1,r1,q1⟩=> ?_) (by rw [hs,hs2]) (by rw [hs2]; rfl)))
 obtain⟨t1,t2,e,⟨xs,hq1⟩,⟨ys,hq2⟩,q⟩:=q1
 subst e
 cases r1 with
 | cons r rr=>
  cases rr with
  | cons r' rr=>
   cases rr
   cases r
   cases r'
   obtain⟨its1,rv1,p1,hz1⟩:=I1.tuple hq1
   obtain⟨its2,rv2,p2,hz2⟩:=I1.tuple hq2
   refine Dl (show s1.heap.IsTuple t1 its1.toArray from p1) (show s1.heap.IsTuple t2 its2.toArray from p2) fun h' a1 a2 a3 k=> ?_
   refine sh (s:={s1 with heap:=h'}) a1 ?_
   have D:Mz (s1.heap.objs.size+4) (s1.heap.objs.size+2) (s1.heap.objs.size+3) s1.heap.objs.size (s1.heap.objs.size+1):=by
    constructor <;> first | exact aJ (by show(_:Nat) < _; omega) | exact bY (by show(_:Nat) < _; omega)
   refine⟨_, [s1.heap.objs.size+4,s1.heap.objs.size+2,s1.heap.objs.size+3,s1.heap.objs.size,s1.heap.objs.size+1],_,_,H1,rfl,I1.kept (t':=s1.toks) k,FR D,⟨a1,a2,a3⟩,fun b hb=> ?_,q⟩
   have hb':b=s1.heap.objs.size+4\/b=s1.heap.objs.size+2\/b=s1.heap.objs.size+3\/b=s1.heap.objs.size\/b=s1.heap.objs.size+1:=by simpa using hb
   have hle:s1.heap.objs.size<=b:=by rcases hb' with rfl | rfl | rfl | rfl | rfl <;> (show(_:Nat)<=_; omega)
   exact I1.fpOk hle (I1.eI.fresh hle)
def Gw(ds es:List D):List D:=(ds.zip es).map fun p=>D.tup [p.1,p.2]
theorem lE.zipT(hg:Gl X "zip")(hm:X.mg "zip"=none)(h1:aw X ρ a (.tup ds))(h2:aw X ρ b (.tup es))(hs:au [a,b] X.env= [(false,eval a X.env),(false,eval b X.env)]:=by rfl)(hs2:au [b] X.env= [(false,eval b X.env)]:=by rfl):
  lE X ρ (.Name x px) (.Call (.Name "zip" p) [a,b] [] pos) (Gw ds es):=fun M0 H0 γ α σ H R r k=>(Lz hg hm xE hs hs2).to ((aY.cons h1 (aY.cons h2 aY.nil hs2) (by rw [hs,hs2])) M0 H0 γ α σ H _ r fun vs H1 s x=>by
 obtain⟨v1,r1,rfl,e1,v2,r2,rfl,e2,e3⟩:=x
 cases e3
 obtain⟨t1,xs,rfl,sq1,dn1⟩:=id e1
 obtain⟨t2,ys,rfl,sq2,dn2⟩:=id e2
 refine⟨t1,t2,rfl,⟨xs,sq1⟩,⟨ys,sq2⟩,k _ H1 [(.tup ds, .ref t1),(.tup es, .ref t2)] s (fun p hp=> ?_) fun M H2 hg=> ?_⟩
 ·have hp':p=(.tup ds, .ref t1)\/p=(.tup es, .ref t2):=by simpa using hp
  rcases hp' with rfl | rfl
  ·exact e1
  ·exact e2
 obtain⟨q1,xs',ee1,sq1',dn1'⟩:=hg _ (ck)
 obtain⟨q2,ys',ee2,sq2',dn2'⟩:=hg _ (cA _ (ck))
 cases ee1; cases ee2
 have L1:=dn1'.len
 have L2:=dn2'.len
 refine⟨fun i d hi=> ?_,⟨xs',ys',sq1',sq2', ?_⟩⟩
 ·unfold Gw at hi
  rw [aA]at hi
  cases e:(ds.zip es)[i]? with
  | none=>rw [e]at hi; cases hi
  | some pq=>
   rw [e]at hi
   cases hi
   obtain⟨g1,g2⟩:=List.getElem?_zip_eq_some.mp e
   obtain⟨x,hx,dx⟩:=dn1'.get g1
   obtain⟨y,hy,dy⟩:=dn2'.get g2
   refine⟨⟨xs',ys',x,y,sq1',sq2',hx,hy⟩,fun v H' hv=> ?_⟩
   obtain⟨T,x',y',rfl,hT,rfl,f1,f2⟩:=hv
   have e1:=f1 xs' sq1'
   have e2:=f2 ys' sq2'
   rw [hx]at e1; cases e1
   rw [hy]at e2; cases e2
   exact⟨bG hT,T,_,rfl,kq.of bO,_,_,rfl,dx.same (bG hT),_,_,rfl,dy.same (bG hT),rfl⟩
 ·unfold Gw
  rw [ae,cy]
  omega)
end
def nA:List Str->List D->Str->Option D
 | n::ns,d::ds,f=>if f==n then some d else nA ns ds f
 | _,_,_=>none
theorem CC{K:Frag}{M:MP}{H:Hp}{f:Str}{d:D}: ∀{ns:List Str} {ds:List D} {fs:List (Str×V)},fs.map (·.1)=ns->cN K M H ds (fs.map (·.2))->nA ns ds f=some d-> ∃v,fs.lookup f=some v/\Dn K M H d v
 | [],_,_,_,_,h=>by simp [nA]at h
 | n::ns, [],_,_,_,h=>by simp [nA]at h
 | n::ns,d'::ds, [],e,_,_=>by cases e
 | n::ns,d'::ds,(k,x)::fs,e,⟨v,r,e2,h1,h2⟩,h=>by
  have ek:k=n:=by injection e
  have en:fs.map (·.1)=ns:=by injection e
  have ev:x=v:=by injection e2
  have er:fs.map (·.2)=r:=by injection e2
  subst ek ev er
  unfold nA at h
  rw [iG]
  cases hb:f==k with
  | true=>rw [hb]at h; cases h; exact⟨x,rfl,h1⟩
  | false=>rw [hb]at h; exact CC en h2 h
theorem zF{f:Str}: ∀{ns:List Str} {fs:List (Str×V)},fs.map (·.1)=ns->ns.all (fun n=> !(f==n))=true->fs.lookup f=none
 | _, [],_,_=>rfl
 | ns,(k,x)::fs,e,h=>by
  subst e
  rw [bx,List.all_cons,bJ]at h
  rw [iG]
  cases hb:f==k with
  | true=>rw [hb]at h; exact absurd h.1 (by decide)
  | false=>exact zF rfl h.2
structure MA(P:aq)(w:World)(K:Frag)(mg:Str->Option Value)(base:Heap)(CX:gF)(k:Nat)(C:Addr)(m:Str){ι:Type}(args:ι->List D)(pre:ι->Prop)(res:ι->Except Addr D):Prop where
 ex: ∃(f:Addr) (fd:bj) (ps:List Str),nS P w K mg base CX k f fd ps (mX K args pre res)/\Meth K C m f/\Binds K fd ps []
section
variable {X:Cx}{ρ:fm}{M0:MP}{H0:Hp}{o e:Expr}{es:List Expr}{d:D}{ds:List D}{ns:List Str}{C:Addr}{f m:Str}{pos p apos:Pos}{CX:gF}{k:Nat}{x:Str}{ι:Type}{args:ι->List D}{pre:ι->Prop}{res:ι->Except Addr D}
theorem aw.fld(c:A9 X.K C)(n:jt X.K C f)(h:aw X ρ e (.ins C ns ds))(hf:nA ns ds f=some d)(hb:j9 e f X.env (eval e X.env)=eval e X.env:=by rfl):aw X ρ (.Attribute e f pos) d:=fun M0 H0 γ α σ H Q R kk=>
 (Ms iu hb).to (h M0 H0 γ α σ H _ R fun v H1 s x=>by
  obtain⟨a,dx,fs,rfl,hH,hn,dn⟩:=x
  obtain⟨v,l,dv⟩:=CC hn dn hf
  exact⟨a,C,dx,fs,v,rfl,hH,c,n,l,kk v H1 s dv⟩)
theorem aw.meth0{pl:Sem Bool}(c:A9 X.K C)(F:MA X.prog X.w X.K X.mg X.base CX k C m args pre res)(hr:fI k X.A)(hx:Passes CX X E0)(i:ι)(h:aw X ρ o (.ins C ns ds))(hi:args i= [.ins C ns ds])(hp:pre i)(hres:res i= .ok d)(hn:ns.all (fun n=> !(m==n))=true:=by decide +kernel)
  (ht:eval (.Call (.Attribute o m apos) [] [] pos) X.env=(do
   let ov<-eval o X.env
   standAt apos.atName
   let(f,first)<-kS [ov] (getMethod ov m pl)
   callWith pos f first (eQ pos (au [] X.env)) (backToKw pos (EW [] X.env))):=by rfl):aw X ρ (.Call (.Attribute o m apos) [] [] pos) d:=fun M0 H0 γ α σ H Q R kk=>by
 obtain⟨f,fd,ps,F,hm,hb⟩:=F.ex
 refine(Fh iu c hm F hr hb .nil hx ht).to (h M0 H0 γ α σ H _ R fun v H1 s1 dn=> ?_)
 obtain⟨a,dx,fs,rfl,hH,hns,dn'⟩:=id dn
 refine⟨a,dx,fs,rfl,hH,zF hns hn, ?_⟩
 refine⟨i,MM M0 ρ α,iZ R s1,by rw [hi]; exact⟨_,_,rfl,dn,rfl⟩,hp,fun d' e v H2 s2 dn=>by rw [hres]at e; cases e; exact kk v H2 (s1.trans s2) dn,fun C e=>by rw [hres]at e; cases e⟩
end
section
variable {P:aq}{w:World}{K:Frag}{mg:Str->Option Value}{base:Heap}{CX:gF}{k:Nat}{x qual:Str}{st:Stmt}{f C:Addr}{fd:bj}{N ps:List Str}{ι:Type}{args:ι->List D}{pre:ι->Prop}{res:ι->Except Addr D}
theorem xD(F:lu K x qual st f fd)(S:bV N ps (aE st))(hm:Meth K C x f)(hb:Binds K fd ps [])(hl: ∀i,(args i).length=ps.length)
  (body: ∀(cdv:Value) (A:bA) (outer:List Env) (s:ai) (H:Hp) (E:XK) (i:ι) (M0:MP),pre i->fI k (A.deeper (kM qual (aE st) s.heap.objs.size f cdv))->
   ∃d,res i= .ok d/\WS (lC CX P w K mg base N qual (aE st) f cdv A outer s H E).nox M0 H (aP st) (sC N (args i)) {N:=fun _=>d= .non,R:=fun d'=>d'=d}):MA P w K mg base CX (k+1) C x args pre res:=
 ⟨f,fd,ps,B3 F S hl body,hm,hb⟩
end
def e7(H:Hp)(x:Addr):Hp:=fun b=>if b=x then none else H b
theorem qB{H:Hp}{x:Addr}:e7 H x x=none:=if_pos rfl
theorem fy{H:Hp}{x:Addr}:bT (e7 H x) H:=fun b o e=>by
 unfold e7 at e
 split at e
 ·cases e
 ·exact e
def D.noI:Nat->D->Prop
 | _, .non=>True
 | _, .bl _=>True
 | _, .int _=>True
 | _, .str _=>True
 | n+1, .tup ds=> ∀d∈ds,D.noI n d
 | n+1, .lst ds=> ∀d∈ds,D.noI n d
 | _,_=>False
theorem yb{K:Frag}{M:MP}{H H':Hp}: ∀{ds:List D} {xs:List V},(∀d∈ds, ∀v,Dn K M H d v->Dn K M H' d v)->cN K M H ds xs->cN K M H' ds xs
 | [],_,_,r=>r
 | d::ds,_,h,⟨v,t,e,h1,h2⟩=>⟨v,t,e,h d (.head _) v h1,yb (fun x hx=>h x (.tail _ hx)) h2⟩
theorem Dn.noI{K:Frag}{M:MP}{H H':Hp}(kk: ∀b o,H b=some o->(∀C dx fs,o≠ .ins C dx fs)->H' b=some o): ∀(n:Nat) {d:D} {v:V},D.noI n d->Dn K M H d v->Dn K M H' d v:=by
 intro n
 induction n with
 | zero=>intro d v hf h; cases d <;> first | exact h | exact hf.elim
 | succ n ih=>
  intro d v hf h
  cases d with
  | tup ds=>
   obtain⟨a,xs,e,s,r⟩:=h
   refine⟨a,xs,e, ?_,yb (fun d hd v=>ih (hf d hd)) r⟩
   rcases s with(s | ⟨o,s⟩) | s
   ·exact .inl (.inl (kk _ _ s (by intros; intro z; cases z)))
   ·exact .inl (.inr ⟨o,kk _ _ s (by intros; intro z; cases z)⟩)
   ·exact .inr s
  | lst ds=>
   obtain⟨a,xs,e,s,r⟩:=h
   refine⟨a,xs,e, ?_,yb (fun d hd v=>ih (hf d hd)) r⟩
   rcases s with⟨s | ⟨o,s⟩,m⟩ | s
   ·exact .inl ⟨.inl (kk _ _ s (by intros; intro z; cases z)),m⟩
   ·exact .inl ⟨.inr ⟨o,kk _ _ s (by intros; intro z; cases z)⟩,m⟩
   ·exact .inr s
  | non=>exact h
  | bl _=>exact h
  | int _=>exact h
  | str _=>exact h
  | _=>exact hf.elim
theorem Ga{H:Hp}{x C dx:Addr}{fs fs':List (Str×V)}(hx:H x=some (.ins C dx fs)): ∀b o,H b=some o->(∀C dx fs,o≠ .ins C dx fs)->upd H x (.ins C dx fs') b=some o:=fun b o e n=>by
 by_cases hb:b=x
 ·subst hb
  rw [hx]at e; cases e
  exact absurd rfl (n _ _ _)
 ·rw [cD hb]; exact e
theorem Rep.ins{K:Frag}{M0:MP}{H0 H:Hp}{α:Nat->Addr}{ρ:fm}{σ:St}{x C dx:Addr}{fs fs':List (Str×V)}(r:Rep K M0 H0 [] α ρ σ H)(h0:H0 x=none)(hx:H x=some (.ins C dx fs))(hi: ∀s∈ρ,s= .un\/ ∃d,s= .im d/\D.noI 9 d):Rep K M0 H0 [] α ρ σ (upd H x (.ins C dx fs')):=by
 have nomu: ∀(i:Nat) (ds:List D),ρ[i]? =some (.mu ds)->False:=fun i ds e=>by
  rcases hi _ (bg e)with z | ⟨d,z,_⟩ <;> cases z
 refine⟨iz r.same h0,r.old,r.inj,fun i d e=> ?_,fun i ds e=>(nomu i ds e).elim,(fun p hp=>by cases hp),r.len⟩
 obtain⟨v,h1,h2⟩:=r.im i d e
 rcases hi _ (bg e)with z | ⟨d',z,n⟩
 ·cases z
 ·cases z
  exact⟨v,h1,Dn.noI (Ga hx) 9 n h2⟩
section
variable {X:Cx}{ρ:fm}{M0:MP}{H0 H:Hp}{γ:List (D×V)}{α:Nat->Addr}{σ:St}{En:Ends}{c e:Expr}{d:D}{s1:List Stmt}{pos pos' p:Pos}{x C dx:Addr}{f y:Str}{fs:List (Str×V)}
theorem tQ(h:cU X ρ c false)(R:Rep X.K M0 H0 γ α ρ σ H)(k: ∀H',bT H H'->En.nx σ H'):tS X (.If c s1 [] pos) En σ H:=
 (zf Fc f_ f_).to (h M0 H0 γ α σ H _ R fun H1 s=>sG (tH.to (k H1 s)))
theorem AH(i:Nat)(hN:X.N[i]? =some y)(hv:y7 X.env.scope y)(hσ:σ[i]? =some (some (.ref x)))(cl:A9 X.K C)(n:jt X.K C f)(hl:fs.length < 1000)(h:aw X ρ e d)(R:Rep X.K M0 H0 γ α ρ σ H)(hx:H x=some (.ins C dx fs))
  (k: ∀v H1,bT H H1->Dn X.K (MM M0 ρ α) H1 d v->En.nx σ (upd H1 x (.ins C dx (gE f v fs))))(hs:dh e (some (.Attribute (.Name y p) f pos')) pos.line X.env=pure false:=by rfl)(hd:(y==("__debug__":Str))=false:=by decide)(hcd:(y==("__classdict__":Str))=false:=by decide):
  tS X (.Assign [.Attribute (.Name y p) f pos'] e pos) En σ H:=
 (Hl (ng hN hv hd hcd) iu hs).to (h M0 H0 γ α σ H _ R fun v H1 s dn=>⟨_,hσ,x,C,dx,fs,rfl,s _ _ hx,cl,n,hl,k v H1 s dn⟩)
theorem Ka{W:D->Prop}(i:Nat)(hN:X.N[i]? =some y)(hv:y7 X.env.scope y)(hσ:σ[i]? =some (some (.ref x)))(cl:A9 X.K C)(n:jt X.K C f)(hl:fs.length < 1000)(h:JP X ρ e W)(R:Rep X.K M0 H0 γ α ρ σ H)(hx:H x=some (.ins C dx fs))
  (k: ∀d v H1,W d->bT H H1->Dn X.K (MM M0 ρ α) H1 d v->En.nx σ (upd H1 x (.ins C dx (gE f v fs))))(hs:dh e (some (.Attribute (.Name y p) f pos')) pos.line X.env=pure false:=by rfl)(hd:(y==("__debug__":Str))=false:=by decide)(hcd:(y==("__classdict__":Str))=false:=by decide):
  tS X (.Assign [.Attribute (.Name y p) f pos'] e pos) En σ H:=
 (Hl (ng hN hv hd hcd) iu hs).to (h M0 H0 γ α σ H _ R fun d v H1 hd s dn=>⟨_,hσ,x,C,dx,fs,rfl,s _ _ hx,cl,n,hl,k d v H1 hd s dn⟩)
end
def O2(K:Frag)(C:Addr)(ns:List Str){ι:Type}(args:ι->List D)(pre:ι->Prop)(res:ι->List D->Prop):Sp:=fun vs H Q E=>
 ∃(i:ι) (M0:MP) (x dx:Addr) (us:List V),vs= .ref x::us/\H x=some (.ins C dx [])/\(∀a,M0 a->e7 H x a≠none)/\cN K M0 H (args i) us/\pre i/\
  ∀ds fs H',res i ds->bT (e7 H x) H'->H' x=some (.ins C dx fs)->fs.map (·.1)=ns->cN K M0 H' ds (fs.map (·.2))->Q .non H'
structure OV(P:aq)(w:World)(K:Frag)(mg:Str->Option Value)(base:Heap)(CX:gF)(k:Nat)(x:Str)(C:Addr)(ns:List Str){ι:Type}(args:ι->List D)(pre:ι->Prop)(res:ι->List D->Prop):Prop where
 ex: ∃(f:Addr) (fd:bj) (ps:List Str),nS P w K mg base CX k f fd ps (O2 K C ns args pre res)/\Mk K C f/\mg x=some (.ref C)/\Binds K fd ps []
section
variable {X:Cx}{ρ:fm}{e:Expr}{es:List Expr}{C:Addr}{x:Str}{ns:List Str}{pos p:Pos}{CX:gF}{k:Nat}{ι:Type}{args:ι->List D}{pre:ι->Prop}{res:ι->List D->Prop}
theorem JP.make(F:OV X.prog X.w X.K X.mg X.base CX k x C ns args pre res)(hr:fI (k+1) X.A)(hx:Passes CX X E0)(hg:Gl X x)(i:ι)(ha:aY X ρ (e::es) (args i))(hp:pre i)(hdb:(x==("__debug__":Str))=false:=by decide)
  (he:au (e::es) X.env=(false,eval e X.env)::au es X.env:=by rfl)(hpl:(eQ pos (au es X.env)).any (·.1)=false:=by rfl):JP X ρ (.Call (.Name x p) (e::es) [] pos) (fun d=> ∃ds,d= .ins C ns ds/\res i ds):=fun M0 H0 γ α σ H Q R kk=>by
 obtain⟨f,fd,ps,F,M,hm,hb⟩:=F.ex
 refine(Jc M F hr hg hm hb .nil hx xE hdb he hpl).to (ha M0 H0 γ α σ H _ R fun vs H1 s1 d1=>fun y dy n1 n2 ne=> ?_)
 rw [bq]
 have sm:bT H1 (upd (upd H1 dy (.own y)) y (.ins C dy [])):=fun b o e=>by rw [cD (gc e n1),cD (gc e n2)]; exact e
 have smh:bT H1 (e7 (upd (upd H1 dy (.own y)) y (.ins C dy [])) y):=fun b o e=>by
  unfold e7
  rw [if_neg (gc e n1)]
  exact sm b o e
 refine⟨i,MM M0 ρ α,y,dy,vs,rfl,bO,fun a ha z=>iZ R s1 a ha (smh.free z),d1.same sm,hp,fun ds fs H' hres s2 hy hns dn=>⟨rfl,kk (.ins C ns ds) (.ref y) H' ⟨ds,rfl,hres⟩ ((s1.trans smh).trans s2) ⟨y,dy,fs,rfl,hy,hns,dn⟩⟩⟩
end
def jV(env:Env)(x:Str×kg)(r:List (Str×Addr)):Sem (ForInStep (List (Str×Addr))):=do
 if x.2==Ap then do
  let a<-cellOf env x.1
  pure (iY ((x.1,a)::r))
 else pure (iY r)
theorem oP{env:Env}: ∀(l rest:List (Str×kg)) (acc:List (Str×Addr)),(∀z∈l,z.2≠ .free)->forIn (l ++ rest) acc (jV env)=forIn rest acc (jV env)
 | [],_,_,_=>rfl
 | z::l,rest,acc,h=>by
  have hz:(z.2==Ap)=false:=by simpa using h z (.head _)
  rw [nZ,dg]
  have e:jV env z acc=pure (iY acc):=by unfold jV; rw [hz]; rfl
  rw [e]
  simp only [vJ]
  exact oP l rest acc fun w hw=>h w (.tail _ hw)
theorem uu{scope:Scope}{env:Env}{y:Str}{c:Addr}{pre post:List (Str×kg)}(hs:scope.names=pre ++ (y, .free)::post)(h1: ∀z∈pre,z.2≠ .free)(h2: ∀z∈post,z.2≠ .free)(hc:env.cells.lookup y=some c):yB scope env=pure [(y,c)]:=by
 have all:forIn scope.names ([]:List (Str×Addr)) (jV env)=pure [(y,c)]:=by
  rw [hs,oP pre _ [] h1,dg]
  have e:cellOf env y=pure c:=by unfold cellOf; rw [hc]
  have e2:jV env (y, .free) []=pure (iY [(y,c)]):=by
   unfold jV
   simp only [beq_self_eq_true,if_true,e,vJ]
  rw [e2]
  simp only [vJ]
  have:=oP (env:=env) post [] [(y,c)] h2
  rw [bq]at this
  rw [this]
  rfl
 have e2:=congrArg (fun m=>m >>=fun r=>(pure r:Sem (List (Str×Addr)))) all
 have e3:yB scope env=(forIn scope.names ([]:List (Str×Addr)) (jV env) >>=fun r=>pure r):=rfl
 rw [e3,all]
 rfl
theorem eY.cap1{X:Cx}{scope:Scope}{x y:Str}{c:Addr}{j:Nat}{pre post rn:List (Str×kg)}(hs:scope.names=pre ++ (y, .free)::post)(h1: ∀z∈pre,z.2≠ .free)(h2: ∀z∈post,z.2≠ .free)(hcl:X.env.cells.lookup y=some c)
  (hc: ∀z∈scope.names,z.2≠ .cell)(hk:scope.kind= .function)(hn: ∀y∈scope.names,y.2= .local->scope.names.lookup y.1=some .local)(ho:scope.names.lookup x=some .local)(hj:X.N[j]? =some y)(hy:X.env.scope.names.lookup y=some .cell)
  (hrel:(qx scope X.env).names=rn)(hrn:rn.lookup y=some .cell)(hall: ∀z∈rn,(z.2= .cell\/z.2= .free)->z.1=y):eY X [x,y] [j] scope x [(y,c)] where
 Di:=uu hs h1 h2 hcl
 cell:=hc
 kind:=hk
 names:=hn
 own:=ho
 hN:=⟨[y],rfl,rfl,fun i z k e1 e2=>by
  cases i with
  | zero=>
   have e1':y=z:=by simpa using e1
   have e2':j=k:=by simpa using e2
   subst e1' e2'
   refine⟨hj,hy,by rw [hrel]; exact hrn,fun c' e=> ?_⟩
   rw [hcl]at e
   cases e
   simp
  | succ i=>simp at e1⟩
 sub:=fun z d h=>by
  rw [iG]at h
  cases hb:z==y with
  | true=>
   rw [hb]at h
   cases h
   rw [beq_iff_eq.mp hb]
   exact hcl
  | false=>rw [hb]at h; simp at h
 has:=fun z h=>by
  rw [hrel]at h
  have:z=y:=by
   rcases h with h | h
   ·exact hall _ (cQ h) (.inl rfl)
   ·exact hall _ (cQ h) (.inr rfl)
  subst this
  exact⟨c,by simp⟩
theorem KL{ρ:fm}{j:Nat}{c:D}(h:ρ[j]? =some (.im c)):zx ρ [j] [c]:=⟨rfl,fun k i d e1 e2=>by
 cases k with
 | zero=>
  have e1':j=i:=by simpa using e1
  have e2':c=d:=by simpa using e2
  subst e1' e2'
  exact h
 | succ k=>simp at e1⟩
section
variable {X:Cx}{ρ:fm}{e a b:Expr}{d:D}{ds:List D}{pos p p2 p3 p4:Pos}
def MU(K:Frag):List V->Hp->VK->Prop:=fun xs H Q=> ∃v tp M d,xs= [v, .ref tp]/\H tp=some (.tup [.ty "list", .ty "tuple"])/\qM K M H d v/\p9 d=true/\Q (.bl (w9 "list" d || w9 "tuple" d)) H
theorem DB:g7 X (.builtin "isinstance") (MU X.K):=by
 intro pins s σ H xs us Q I r ⟨v,tp,M,d,e,ht,h,hp,q⟩
 subst e
 obtain⟨u,c,rfl,r1,r2⟩:=vals2 r
 cases (show c=ak tp from r2)
 obtain⟨_,its,rv,o,ho,hc,n,hd⟩:=(show fR X.prog X.w H s.heap tp (.tup [.ty "list", .ty "tuple"])from I.eI tp _ ht)
 obtain⟨oc,od,dt,sl⟩:=o
 cases (show oc=_ from hc)
 cases (show dt=_ from hd)
 cases rv with
 | cons q1 rv=>
  cases rv with
  | cons q2 rv=>
   cases rv
   cases (show _=cR "list" from q1)
   cases (show _=cR "tuple" from q2)
   refine J9 (its:= [.type "list", .type "tuple"]) (r:=w9 "list" d || w9 "tuple" d) I h r1 hp ho ?_ fun tk=>⟨.bl _,H,I.tok tk,rfl,q⟩
   cases d <;> first | rfl | (cases hp)
theorem aw.isi2{x1:Nat}(hg:Gl X "isinstance")(hm:X.mg "isinstance"=none)(hg1:Gl X "list")(hm1:X.mg "list"=none)(hg2:Gl X "tuple")(hm2:X.mg "tuple"=none)(h:mZ X ρ e d)(hp:p9 d=true)
  (he:au [e, .Tuple [.Name "list" p2, .Name "tuple" p3] x1 p4] X.env=(false,eval e X.env)::au [.Tuple [.Name "list" p2, .Name "tuple" p3] x1 p4] X.env:=by rfl)(he2:au [.Tuple [.Name "list" p2, .Name "tuple" p3] x1 p4] X.env= [(false,eval (.Tuple [.Name "list" p2, .Name "tuple" p3] x1 p4) X.env)]:=by rfl)
  (he3:au [.Name "list" p2, .Name "tuple" p3] X.env= [(false,eval (.Name "list" p2) X.env),(false,eval (.Name "tuple" p3) X.env)]:=by rfl)(he4:au [.Name "tuple" p3] X.env= [(false,eval (.Name "tuple" p3) X.env)]:=by rfl)
  (hpl:(eQ pos (au [.Tuple [.Name "list" p2, .Name "tuple" p3] x1 p4] X.env)).any (·.1)=false:=by rfl):
  aw X ρ (.Call (.Name "isinstance" p) [e, .Tuple [.Name "list" p2, .Name "tuple" p3] x1 p4] [] pos) (.bl (w9 "list" d || w9 "tuple" d)):=fun M0 H0 γ α σ H Q R k=>
 (iy DB hg hm wo (eu iu (eu (GS (eu (tL (v:= .ty "list") hg1 hm1 (by decide +kernel) rfl (by decide) (by decide)) (eu (tL (v:= .ty "tuple") hg2 hm2 (by decide +kernel) rfl (by decide) (by decide)) gZ he4) (by rw [he3,he4]))) gZ he2) he) (by decide) (by decide) he hpl).to
  (h M0 H0 γ α σ H _ R fun v H1 s1 d1=>⟨by show 2<=sizeLine; decide,fun q hq=>⟨v,q,_,d,rfl,bO,d1.same (bG hq),hp,k _ _ (s1.trans (bG hq)) rfl⟩⟩)
end
end Z
namespace K
open PySem L2 Z
theorem GF{f:eG}(h1:0<=f.st)(h2:0<=f.ht):good f (ik f.st.toNat [])=true:=by
 unfold good
 rw [jQ,decide_eq_true (by omega)]
 have e:(ik f.st.toNat ([]:List Int)).flatten= []:=by simp
 rw [e,decide_eq_true qr]
 simp only [iU,dQ]
 intro r hr
 rw [List.eq_of_mem_replicate hr]
 unfold jM
 simp [h2]
theorem uc{f:eG}{cell:Int}{st:List (List Int)×Option Int}{k:Nat}(h:good f st.1=true):good f (h_ f cell st k).1=true:=by
 obtain⟨rows,oc⟩:=st
 cases oc with
 | none=>exact h
 | some c=>
  unfold h_
  dsimp only
  split
  ·rename_i hg; exact hg
  ·exact h
theorem uH{f:eG}{cell:Int}{rows:List (List Int)}{c:Int}(h:good f rows=true): ∀n,good f (place f cell rows c n).1=true
 | 0=>h
 | n+1=>by rw [pV]; exact uc (uH h n)
theorem r_{f:eG}: ∀(m:Nat) (cell:Int) (rows:List (List Int)) (left:List Int),good f rows=true->good f (tZ f m cell rows left)=true
 | 0,_,_,_,h=>h
 | m+1,cell,rows,left,h=>r_ m _ _ _ (uH h _)
theorem lD{f:eG}{cell:Int}{crates:List Int}(h1:0<=f.st)(h2:0<=f.ht):good f (fA f cell crates)=true:=r_ _ _ _ _ (GF h1 h2)
theorem g6{f:eG}{rows:List (List Int)}(h:good f rows=true):(rows.length:Int)=f.st:=by
 unfold good at h
 simp only [bJ,decide_eq_true_eq]at h
 exact h.1.1
theorem pW{f:eG}{rows:List (List Int)}(h:good f rows=true)(hf:f.st<=4)(hh:f.ht<=6):rows.flatten.length<=24/\ ∀r∈rows,r.length<=6:=by
 have hr: ∀r∈rows,r.length<=6:=fun r hr=>by
  unfold good at h
  simp only [bJ,decide_eq_true_eq,dQ]at h
  have h2:=h.2 r hr
  unfold jM at h2
  simp only [bJ,decide_eq_true_eq]at h2
  omega
 refine⟨?_,hr⟩
 have hl:=g6 h
 have: ∀rs:List (List Int),(∀r∈rs,r.length<=6)->rs.flatten.length<=6 * rs.length:=fun rs=>by
  induction rs with
  | nil=>intro _; simp
  | cons a rs ih=>
   intro ha
   have h1:=ih fun r hr=>ha r (.tail _ hr)
   have h2:=ha a (.head _)
   rw [cJ,ao,aL]
   omega
 have:=this rows hr
 omega
structure Bm(mg:Str->Option Value):Prop extends Bn mg where
 s_:mg "isinstance"=none
 int:mg "int"=none
 bool:mg "bool"=none
 all:mg "all"=none
 any:mg "any"=none
 zip:mg "zip"=none
 sorted:mg "sorted"=none
 min:mg "min"=none
 mw: ∃t,mg "FEWEST_STACKS"=some (.int 2 t)
 most: ∃t,mg "MOST_STACKS"=some (.int 4 t)
 low: ∃t,mg "LOWEST_HEIGHT"=some (.int 1 t)
 great: ∃t,mg "GREATEST_HEIGHT"=some (.int 6 t)
 weak: ∃t,mg "WEAKEST_CRANE"=some (.int 1 t)
 Fu: ∃t,mg "STRONGEST_CRANE"=some (.int 3 t)
 K6: ∃t,mg "MOST_BANS"=some (.int 20 t)
 fst: ∃t,mg "FIRST_CRATE"=some (.int 0 t)
 lst: ∃t,mg "LAST_CRATE"=some (.int 9 t)
theorem uI{X:Cx}{ρ:fm}{x:Str}{z:Int}{pos:Pos}(h: ∃t,X.mg x=some (.int z t))(hg:Gl X x)(hd:(x==("__debug__":Str))=false:=by decide):aw X ρ (.Name x pos) (.int z):=
 let⟨t,e⟩:=h; aw.glob (v:= .int z) hg e ⟨t,rfl⟩ (fun _ _=>rfl) hd
abbrev tj(i:Nat):Stmt:=inClass (top 20) i
abbrev sj:Stmt:=inClass (top 20) 0
section
variable {P:aq}{w:World}{K:Frag}{mg:Str->Option Value}{base:Heap}{CX:gF}
theorem Hx:bV ["value","least","most"] ["value","least","most"] (aE o4):=⟨rfl,rfl,rfl,by decide +kernel,rfl,by decide +kernel,by decide +kernel⟩
abbrev oJ(P:aq)(w:World)(K:Frag)(mg:Str->Option Value)(base:Heap)(CX:gF):Prop:=
 nq P w K mg base CX 1 "is_within" (fun i:Int×Int×Int=> [.int i.1, .int i.2.1, .int i.2.2]) (fun _=>True) (fun i=> .ok (.bl (decide (i.2.1<=i.1)&&decide (i.1<=i.2.2))))
theorem Dd{f:Addr}{fd:bj}(B:Bm mg)(F:lu K "is_within" "is_within" o4 f fd)(hm:mg "is_within"=some (.ref f))(hb:Binds K fd ["value","least","most"] []):oJ P w K mg base CX:=by
 refine fD F Hx hm hb (fun i=>rfl) fun cdv A outer s H E i M0 hp hr=>⟨_,rfl, ?_⟩
 obtain⟨v,lo,hi⟩:=i
 refine WS.cons (W1.ite (ju.t (ju.or (cU.not (cU.val (aw.s_ rfl B.s_ rfl B.int (by decide +kernel) (.inl rfl) (aw.r (nm 0 rfl rfl)) rfl))) fun _=>ju.or1 (cU.val (aw.s_ rfl B.s_ rfl B.bool (by decide +kernel) (.inr (.inl rfl)) (aw.r (nm 0 rfl rfl)) rfl)))) (fun h=> ?_) fun h=>WS.nil ?_)
 ·rw [Km,HF]at h
  cases h
 ·exact WS.one (W1.ret (aw.chain .le .le (nm 1 rfl rfl) (nm 0 rfl rfl) (nm 2 rfl rfl)) rfl)
def j_(i:Int):Bool:=decide (0<=i)&&decide (i<=9)
theorem Kg:bV ["value"] ["value"] (aE rq):=⟨rfl,rfl,rfl,by decide +kernel,rfl,by decide +kernel,by decide +kernel⟩
abbrev xB(P:aq)(w:World)(K:Frag)(mg:Str->Option Value)(base:Heap)(CX:gF):Prop:=
 nq P w K mg base CX 2 "is_crate" (fun i:Int=> [.int i]) (fun _=>True) (fun i=> .ok (.bl (j_ i)))
theorem HE{f:Addr}{fd:bj}(nx:NX CX)(B:Bm mg)(G:oJ P w K mg base CX)(F:lu K "is_crate" "is_crate" rq f fd)(hm:mg "is_crate"=some (.ref f))(hb:Binds K fd ["value"] []):xB P w K mg base CX:=by
 refine fD F Kg hm hb (fun i=>rfl) fun cdv A outer s H E i M0 hp hr=>⟨_,rfl, ?_⟩
 exact WS.one (W1.ret (aw.call G hr (aX nx) rfl (i,0,9) (aY.cons (nm 0 rfl rfl) (aY.cons (uI B.fst rfl) (aY.cons (uI B.lst rfl) aY.nil))) trivial rfl) rfl)
theorem Jf:bV ["ban"] ["ban"] (aE rJ):=⟨rfl,rfl,rfl,by decide +kernel,rfl,by decide +kernel,by decide +kernel⟩
def qC(p:Int×Int):Bool:=j_ p.1&&(j_ p.2&& !decide (p.1=p.2))
abbrev Ba(P:aq)(w:World)(K:Frag)(mg:Str->Option Value)(base:Heap)(CX:gF):Prop:=
 nq P w K mg base CX 3 "is_ban" (fun p:Int×Int=> [pD p]) (fun _=>True) (fun p=> .ok (.bl (qC p)))
theorem GP{f:Addr}{fd:bj}(nx:NX CX)(B:Bm mg)(G:xB P w K mg base CX)(F:lu K "is_ban" "is_ban" rJ f fd)(hm:mg "is_ban"=some (.ref f))(hb:Binds K fd ["ban"] []):Ba P w K mg base CX:=by
 refine fD F Jf hm hb (fun i=>rfl) fun cdv A outer s H E p M0 hp hr=>⟨_,rfl, ?_⟩
 obtain⟨p1,p2⟩:=p
 refine WS.cons (W1.ite (ju.t (ju.or (cU.not (cU.val (aw.s_ rfl B.s_ rfl B.tuple (by decide +kernel) (.inr (.inr (.inr (.inl rfl)))) (aw.r (nm 0 rfl rfl)) rfl))) fun _=>ju.or1 (cU.cI .ne (aw.lenT rfl B.len (nm 0 rfl rfl)) aw.int))) (fun h=> ?_) fun h=>WS.nil ?_)
 ·rw [show w9 "tuple" (pD (p1,p2))=true from rfl]at h
  simp at h
 ·exact WS.one (W1.ret (aw.and (aw.call G hr (aX nx) rfl p1 (aY.cons (aw.ixT (nm 0 rfl rfl) aw.int rfl) aY.nil) trivial rfl) fun _=>aw.and (aw.call G hr (aX nx) rfl p2 (aY.cons (aw.ixT (nm 0 rfl rfl) aw.int rfl) aY.nil) trivial rfl) fun _=>aw.one (aw.cI .ne (aw.ixT (nm 0 rfl rfl) aw.int rfl) (aw.ixT (nm 0 rfl rfl) aw.int rfl))) rfl)
theorem C7:bV ["bans"] ["bans"] (aE mG):=⟨rfl,rfl,rfl,by decide +kernel,rfl,by decide +kernel,by decide +kernel⟩
abbrev tX(P:aq)(w:World)(K:Frag)(mg:Str->Option Value)(base:Heap)(CX:gF):Prop:=
 nq P w K mg base CX 4 "are_bans" (fun ps:List (Int×Int)=> [.lst (ps.map pD)]) (fun ps=>ps.length<=100) (fun ps=> .ok (.bl (decide (ps.length<=20)&&ps.all qC)))
theorem A3{f:Addr}{fd:bj}(nx:NX CX)(B:Bm mg)(G:Ba P w K mg base CX)(F:lu K "are_bans" "are_bans" mG f fd)(hm:mg "are_bans"=some (.ref f))(hb:Binds K fd ["bans"] []):tX P w K mg base CX:=by
 refine fD F C7 hm hb (fun i=>rfl) fun cdv A outer s H E ps M0 hp hr=>⟨_,rfl, ?_⟩
 have hp':ps.length<=100:=hp
 refine WS.cons (W1.ite (ju.t (ju.or (cU.not (cU.val (aw.isi2 rfl B.s_ rfl B.list rfl B.tuple (aw.r (nm 0 rfl rfl)) rfl))) fun _=>ju.or1 (cU.cI .gt (aw.lenL rfl B.len (aw.r (nm 0 rfl rfl))) (uI B.K6 rfl)))) (fun h=> ?_) fun h=>WS.nil ?_)
 ·rw [show(w9 "list" (D.lst (ps.map pD)) || w9 "tuple" (D.lst (ps.map pD)))=true from rfl,ae]at h
  have h':(20:Int) < (ps.length:Int):=by simpa using h
  refine WS.one (W1.ret aw.bl ?_)
  show D.bl false=D.bl (decide (ps.length<=20)&&ps.all qC)
  rw [decide_eq_false (by omega)]
  rfl
 ·rw [show(w9 "list" (D.lst (ps.map pD)) || w9 "tuple" (D.lst (ps.map pD)))=true from rfl,ae]at h
  have h': ¬(20:Int) < (ps.length:Int):=by simpa using h
  refine WS.one (W1.ret (aw.to (aw.all (bs:=ps.map qC) rfl rfl B.all (aw.r (eJ.toD (eJ.comp (ds:=ps.map pD) (es:=(ps.map qC).map D.bl) (cs:= []) (eY.closed (by decide +kernel) (by decide +kernel) rfl (by decide +kernel) rfl) rfl (by decide +kernel) (lE.list (nm 0 rfl rfl)) xq (by simp) (by rw [ae]; omega) ?_)))) (d':= .bl (decide (ps.length<=20)&&ps.all qC)) (by rw [List.all_map,decide_eq_true (show ps.length<=20 by omega)]; rfl)) rfl)
  intro C s₀ H₀ fp pins i d e h1 h2
  rw [aA]at h1
  rw [aA,aA]at h2
  cases ei:ps[i]? with
  | none=>rw [ei]at h1; cases h1
  | some v=>
   rw [ei]at h1 h2
   cases h1
   cases h2
   exact aw.call G hr (aX nx) rfl v (aY.cons (nm 0 rfl rfl) aY.nil) trivial rfl
end
end K
namespace Z
open PySem PySem.Spec PyProof.Rows L2
def n9(ns:List Int):List Int:=ns.mergeSort fun a b=>decide (a<=b)
theorem qS(ns:List Int):(n9 ns).Perm ns:=List.mergeSort_perm _ _
theorem Ly(ns:List Int):(n9 ns).Pairwise (· <= ·):=by
 have h:=List.pairwise_mergeSort (le:=fun a b:Int=>decide (a<=b)) (fun a b c h1 h2=>by simp only [decide_eq_true_eq]at *; omega) (fun a b=>by simp only [Bool.or_eq_true,decide_eq_true_eq]; omega) ns
 exact h.imp fun h=>of_decide_eq_true h
theorem FW{ns ns':List Int}(hp:ns'.Perm ns)(hs:ns'.Pairwise (· <= ·)):ns'=n9 ns:=
 List.Perm.eq_of_pairwise (fun a b _ _ h1 h2=>Int.le_antisymm h1 h2) hs (Ly ns) (hp.trans (qS ns).symm)
theorem qG(ns:List Int):(n9 ns).length=ns.length:=(qS ns).length_eq
theorem qH: ∀{us:List Value} {ns:List Int},jC us ns->Vals (ns.map V.int) us
 | _,_, .nil=> .nil
 | _,_, .cons _ _ h=> .cons ⟨_,rfl⟩ (qH h)
section
variable {X:Cx}{ρ:fm}{M0:MP}{H0:Hp}{P:qD}{e a b c tg:Expr}{d:D}{ds:List D}{pos p p1 p2:Pos}
theorem x_:g7 X (.builtin "sorted") (fun xs H Q=> ∃q ns,xs= [.ref q]/\pU X.K H q (ns.map V.int)/\ns.length < 64/\ ∀l,H l=none->Q (.ref l) (upd H l (.lst ((n9 ns).map V.int)))):=by
 intro pins s σ H xs us Q I r ⟨q,ns,e,hq,hl,k⟩
 subst e
 obtain⟨u,rfl,rx⟩:=vals1 r
 cases rx
 obtain⟨its,r',pl,hz⟩:=I.list hq
 have hlen:=r'.length
 rw [ae]at hlen
 refine sorted_ints pl.isList (intsAre_of r') (by omega) fun out ns' a1 a2 a3=> ?_
 obtain⟨e,he⟩:=sortedAll_at s.heap its out
 have en:=FW a2 a3
 subst en
 refine⟨.ref (s.heap.objs.size+1),_,I.laid (t':=s.toks) (fun b o e=>sortedAll_old e) (EX _) (o:= .lst ((n9 ns).map V.int)) ⟨by rw [ae,qG]; exact ke (by omega),out.toList,e,qH a1,by rw [he]⟩,rfl,k _ (I.eI.fresh (EX _))⟩
theorem eJ.sortedI{ns:List Int}(hg:Gl X "sorted")(hm:X.mg "sorted"=none)(h:mZ X ρ e (.lst (ns.map .int)))(hl:ns.length < 64)(he:au [e] X.env= [(false,eval e X.env)]:=by rfl):eJ X ρ (.Call (.Name "sorted" p) [e] [] pos) ((n9 ns).map .int):=fun M0 H0 γ α σ H Q R k=>
 (iy x_ hg hm (by decide +kernel) (eu iu gZ he) (by decide) (by decide) he).to (h M0 H0 γ α σ H _ R fun v H1 s1 d1=>by
  obtain⟨q,xs,rfl,sq,dn⟩:=d1
  rw [dn.ints]at sq
  exact⟨q,ns,rfl,sq,hl,fun l hl'=>k l _ H1 _ s1 hl' (bG hl') bO (cN.of_ints _)⟩)
end
section
variable {P:aq}{w:World}{K:Frag}{mg:Str->Option Value}{base:Heap}{CX:gF}{k:Nat}{x qual:Str}{st:Stmt}{f:Addr}{fd:bj}{N ps:List Str}{ι:Type}{args:ι->List D}{pre:ι->Prop}{res:ι->Except Addr D}
theorem J6(F:lu K x qual st f fd)(S:bV N ps (aE st))(hm:mg x=some (.ref f))(hb:Binds K fd ps [])(hl: ∀i,(args i).length=ps.length)
  (body: ∀(cdv:Value) (A:bA) (outer:List Env) (s:ai) (H:Hp) (E:XK) (i:ι) (M0:MP),pre i->fI k (A.deeper (kM qual (aE st) s.heap.objs.size f cdv))->
   ∃d,res i= .ok d/\ ∀(σ:St),Rep K M0 H [] (fun _=>0) (sC N (args i)) σ H->oM (lC CX P w K mg base N qual (aE st) f cdv A outer s H E).nox (aP st) (ends K M0 H [] {N:=fun _=>d= .non,R:=fun d'=>d'=d}) σ H):nq P w K mg base CX (k+1) x args pre res:=by
 refine⟨f,fd,ps, ?_,hm,F.kp,hb⟩
 obtain⟨oc,od,kV,doc,pm,an,cdv,ct,osl,rfl,lk,hcd⟩:=F.ex
 refine Ae lk hcd S (fun vs H Q E ⟨i,M0,_,h,_⟩=>by rw [h.len,hl]) fun A outer s H vs Q E hr hsp=> ?_
 obtain⟨i,M0,hM,h,hp,k1,k2⟩:=hsp
 obtain⟨d,hd,ws⟩:=body cdv A outer s H E i M0 hp hr
 refine⟨oM _ (aP st),(f_ (X:=(lC CX P w K mg base N qual (aE st) f cdv A outer s H E).nox)).nox, ?_⟩
 refine oM.mono (En:=ends K M0 H [] {N:=fun _=>d= .non,R:=fun d'=>d'=d}) (fun σ' H' ⟨α,ρ,R,e⟩=> ?_) (fun v H' ⟨d',e,sm,dn⟩=> ?_) (fun _ _ ⟨_,_,_,z⟩=>z.elim) (fun _ _ ⟨_,_,_,z⟩=>z.elim) (ws _ (rep0 hM h))
 ·exact k1 d hd .non H' R.same (by rw [e]; exact rfl)
 ·subst e
  exact k1 _ hd v H' sm dn
end
end Z
namespace Z
open PySem PySem.Spec PyProof.Rows
abbrev Jb(l:List Env):List Addr:=l.filterMap (·.frame)
def Md(h:Heap)(e T:Addr)(cls:Value):Prop:=
 T≠e/\(∃oe vs,h.get? e=some oe/\oe.cls=cls/\oe.data= .fields vs/\vs[1]? =some (.ref T)/\oe.dict=none)/\ ∃oT ts,h.get? T=some oT/\oT.data= .fields ts/\ts[3]? =some .none
structure Ab(l:List Env)(ch:List Addr)(e T:Addr)(cls:Value)(h h':Heap):Prop where
 new:h.objs.size<=T
 tr:Md h' e T cls
 keep: ∀b o,b∉ch->b∉Jb l->h.get? b=some o->h'.get? b=some o
 slot: ∀b o,b∈Jb l->h.get? b=some o-> ∃sl,h'.get? b=some {o with slots:=sl}
section
variable {M:Model}{A:bA}{E:Value->ai->Prop}{s:ai}
theorem Fs(f:Array Value->Array Value)(o:Obj):(eN f o).dict=o.dict:=by
 obtain⟨c,d,dt,sl⟩:=o
 cases dt <;> rfl
theorem pR{base:Heap}{env:Env}{outer:List Env}{L e:Addr}{oe:Obj}{vs:Array Value}{head:Value}{hn:Bool}{Q:Unit->ai->Prop}
  (hfr:A.frames=some (env::outer))(hl:s.heap.FunFrames base (env::outer))(hf:env.frame=some L)(he:s.heap.get? e=some oe)(hd:oe.data= .fields vs)(hsz:1 < vs.size)(hdn:oe.dict=none)
  (h: ∀h' T,Ab (env::outer) [e] e T oe.cls s.heap h'->Q () {s with heap:=h'}):
  wpAny M A (do let a<-frameOf env; let pl<-entryPlaceOf L hn; let b<-EntryCells.newEntry head a .none (eS L) .none pl; iq (.ref e) 1 b) (fun _ s'=>wpAny M A (AE (.ref e) none) Q E s') E s:=by
 have nofr: ∀b∈Jb (env::outer),b≠e:=fun b hb q=>by
  obtain⟨_,o,ho,nf⟩:=hl.mem hb
  rw [q,he]at ho
  cases ho
  exact nf vs hd
 refine aa (wpAny_frameOf_fun hfr hl hf fun h1 sl1=>aa (wpAny_entryPlaceOf fun pl hpl=> ?_))
 unfold EntryCells.newEntry newFields
 refine aa (bw ?_ (hpl.sizeOk5 _ _ _ _ _))
 have e1:h1.get? e=some oe:=(sl1.2.1 e fun m=>nofr e m rfl).trans he
 generalize hO:({cls:= .type "traceback",dict:=none,data:= .fields ([head, .ref L, .none,eS L, .none] ++ (if pl.isEmpty then ik 6 aR else pl)).toArray}:Obj)=oT
 have dT: ∃ts:Array Value,oT.data= .fields ts/\3 < ts.size:=⟨_,by rw [<-hO],by simp only [aC,ao,aL]; omega⟩
 have fT:oT.isFreed=false:=by obtain⟨ts,q,_⟩:=dT; exact jT q
 have e2:(h1.push oT).get? e=some oe:=ag _ e1
 have t2:(h1.push oT).get? h1.objs.size=some oT:=az _ fT
 have ne:h1.objs.size≠e:=bY (av e1)
 refine dC e2 hd hsz ?_
 generalize hU:(h1.push oT).update e (eN (·.setIfInBounds 1 (ak h1.objs.size)))=h3
 have d3:=gP hd (·.setIfInBounds 1 (ak h1.objs.size))
 have e3:h3.get? e=some (eN (·.setIfInBounds 1 (ak h1.objs.size)) oe):=by rw [<-hU]; exact dj _ e2 (jT d3)
 have k3: ∀b,b≠e->h3.get? b=(h1.push oT).get? b:=fun b hb=>by rw [<-hU]; exact cB _ _ hb.symm
 have t3:h3.get? h1.objs.size=some oT:=(k3 _ ne).trans t2
 obtain⟨ts,dts,lts⟩:=dT
 unfold AE
 refine aa (bK e3 d3 (x:= .ref h1.objs.size) (by simp [hsz]) ?_)
 rw [if_pos (show(ak h1.objs.size !=aR)=true from by simp)]
 refine dC t3 dts lts (h _ h1.objs.size ⟨kU sl1.1.symm,⟨ne,⟨_,_, ?_,Obj.cls_mapFields _ _,d3,by simp [hsz],(Fs _ _).trans hdn⟩,⟨_,_,dj _ t3 (jT (gP dts _)),gP dts _,by simp [lts]⟩⟩,fun b o n1 n2 q=> ?_,fun b o m q=> ?_⟩)
 ·rw [cB _ _ ne]
  exact e3
 ·have q1:h1.get? b=some o:=(sl1.2.1 b n2).trans q
  have nb:h1.objs.size≠b:=bY (av q1)
  rw [cB _ _ nb,k3 b fun z=>n1 (by simp [z])]
  exact ag _ q1
 ·obtain⟨sl,q1⟩:=sl1.2.2 b o q
  have nb:h1.objs.size≠b:=bY (av q1)
  refine⟨sl, ?_⟩
  rw [cB _ _ nb,k3 b (nofr b m)]
  exact ag _ q1
theorem zO{base:Heap}{env:Env}{outer:List Env}{L e:Addr}{oe:Obj}{vs:Array Value}{Q:Unit->ai->Prop}(hfr:A.frames=some (env::outer))(hl:s.heap.FunFrames base (env::outer))(hf:env.frame=some L)
  (he:s.heap.get? e=some oe)(hd:oe.data= .fields vs)(h1:vs[1]? =some .none)(hdn:oe.dict=none)(h: ∀h' T,Ab (env::outer) [e] e T oe.cls s.heap h'->Q () {s with heap:=h'}):wpAny M A (leaving env (.ref e)) Q E s:=by
 unfold leaving vG
 simp only [hf]
 refine aa (aa (bK he hd h1 ?_))
 rw [if_neg (by decide)]
 exact pR hfr hl hf he hd (cp.mp h1).1 hdn h
theorem A8{base:Heap}{env:Env}{outer:List Env}{L e T:Addr}{cls:Value}{Q:Unit->ai->Prop}(hfr:A.frames=some (env::outer))(hl:s.heap.FunFrames base (env::outer))(hf:env.frame=some L)(ht:Md s.heap e T cls)
  (h: ∀h' T',Ab (env::outer) [e,T] e T' cls s.heap h'->Q () {s with heap:=h'}):wpAny M A (leaving env (.ref e)) Q E s:=by
 obtain⟨ne,⟨oe,vs,he,hc,hd,h1,hdn⟩,oT,ts,hT,hdT,h3⟩:=ht
 subst hc
 unfold leaving vG
 simp only [hf]
 refine aa (aa (bK he hd h1 ?_))
 rw [if_pos (show(ak T !=aR)=true from by simp)]
 refine aa (bK hT hdT h3 ?_)
 rw [if_neg (show ¬((aR==eS L)=true)from by simp [eS])]
 refine aa (dC hT hdT (cp.mp h3).1 ?_)
 have k: ∀b,b≠T->(s.heap.update T (eN (·.setIfInBounds 3 aR))).get? b=s.heap.get? b:=fun b hb=>cB _ _ hb.symm
 have nfT: ∀b∈Jb (env::outer),b≠T:=fun b hb q=>by
  obtain⟨_,o,ho,nf⟩:=hl.mem hb
  rw [q,hT]at ho
  cases ho
  exact nf ts hdT
 refine pR (s:={s with heap:=s.heap.update T (eN (·.setIfInBounds 3 aR))}) hfr (hl.of_keeps fun b o q nf=>⟨o,(k b fun z=> ?_).trans q,rfl⟩) hf ((k e ne.symm).trans he) hd (cp.mp h1).1 hdn fun h' T' x=>h h' T' ⟨?_,x.tr,fun b o n1 n2 q=> ?_,fun b o m q=> ?_⟩
 ·rw [z,hT]at q
  cases q
  exact nf ts hdT
 ·have:=x.new
  rw [show(E6 {s with heap:=s.heap.update T (eN (·.setIfInBounds 3 aR))}).objs.size=s.heap.objs.size from Heap.size_after_update ..]at this
  exact this
 ·exact x.keep b o (fun z=>n1 (by simp at z; simp [z])) n2 ((k b fun z=>n1 (by simp [z])).trans q)
 ·exact x.slot b o m ((k b (nfT b m)).trans q)
end
end Z
namespace Z
open PySem PySem.Spec PyProof.Rows L2
def g8(P:aq)(w:World):gF:=fun outer H s E e s'=> ∃(a T C:Addr) (H':Hp),e= .ref a/\s'.os=s.os/\mR s'.gens/\Un (uW outer) [] H H' s.heap s'.heap/\pG P w H' s'.heap/\s.heap.get? a=none/\s.heap.get? T=none/\H' a=none/\H' T=none/\Md s'.heap a T (.ref C)/\E (.ref C) none H'
theorem lG{P:aq}{w:World}: ∀l H s e s',g8 P w l H s E0 e s'->False:=fun _ _ _ _ _ ⟨_,_,_,_,_,_,_,_,_,_,_,_,_,_,z⟩=>z
section
variable {P:aq}{w:World}{H:Hp}{h:Heap}{a:Addr}{o:HO}
theorem Dx(x:fR P w H h a o): ∃u,h.get? a=some u:=by
 cases o with
 | lst xs=>obtain⟨_,_,_,_,e⟩:=x; exact⟨_,e⟩
 | tup xs=>obtain⟨_,_,_,o,e,_⟩:=x; exact⟨_,e⟩
 | dK kvs=>obtain⟨_,_,_,_,o,_,_,e,_⟩:=x; exact⟨_,e⟩
 | dT kvs=>obtain⟨_,_,xs,_,o,es,ep,e,_⟩:=x; exact⟨_,e⟩
 | set S n=>obtain⟨o,es,ep,t,e,_⟩:=x; exact⟨_,e⟩
 | ins C dx fs=>obtain⟨_,_,_,e,_⟩:=x; exact⟨_,e⟩
 | own b=>exact x
 | xd fs=>obtain⟨_,⟨_,_,_,e,_⟩,_⟩:=x; exact⟨_,e⟩
 | rng lo hi=>obtain⟨_,_,_,e⟩:=x; exact⟨_,e⟩
 | frz o u=>exact⟨_,x.1⟩
 | tbl ps=>exact⟨_,x⟩
 | met f y=>exact⟨_,x⟩
 | ext φ=>exact x.2.1
theorem HL(x:pG P w H h)(e:h.get? a=none):H a=none:=by
 cases q:H a with
 | none=>rfl
 | some o=>
  obtain⟨u,z⟩:=Dx (x a o q)
  rw [e]at z; cases z
end
section
variable {X:Cx}{pins:List (Addr×Obj)}{σ:St}{H:Hp}{s:ai}{h':Heap}{ch:List Addr}{e T:Addr}{cls:Value}
theorem zB(I:Inv X pins σ H s)(hst:X.stack=X.env::X.outer)(hex:X.ex= [])(hf:X.env.frame=some X.env.locals)(x:Ab (X.env::X.outer) ch e T cls s.heap h')(hch: ∀b∈ch,H b=none/\X.s₀.heap.get? b=none):
  Un (uW X.outer) [] X.H₀ H X.s₀.heap h'/\pG X.prog X.w H h':=by
 have B:Un (uW X.outer) [] X.H₀ H X.s₀.heap s.heap:=by have:=I.base; rwa [hex]at this
 have nch: ∀b o,X.s₀.heap.get? b=some o->b∉ch:=fun b o q m=>by rw [(hch b m).2]at q; cases q
 have frl: ∀b,b∈Jb (X.env::X.outer)↔b=X.env.locals\/b∈uW X.outer:=fun b=>by
  show b∈List.filterMap (·.frame) (X.env::X.outer)↔_
  rw [kP,hf]
  exact aO
 have nL: ∀b o,X.s₀.heap.get? b=some o->b≠X.env.locals:=fun b o q=>aJ (bf (av q) I.ok.above)
 refine⟨⟨fun b o q n hb _=> ?_,fun b o q n hb hx=> ?_,fun b o q n hx=>B.free b o q n hx,fun b o q hx=> ?_,B.uL,B.sN,B.tU⟩,fun b u q=> ?_⟩
 ·exact x.keep b o (nch b o q) (fun m=>((frl b).mp m).elim (nL b o q) hb) (B.keep b o q n hb (by simp))
 ·obtain⟨sl,q1⟩:=B.slot b o q n hb hx
  obtain⟨sl',q2⟩:=x.slot b _ ((frl b).mpr (.inr hb)) q1
  exact⟨sl',q2⟩
 ·obtain⟨o',q1⟩:=B.there b o q hx
  by_cases m:b∈Jb (X.env::X.outer)
  ·obtain⟨sl,q2⟩:=x.slot b o' m q1
   exact⟨_,q2⟩
  ·exact⟨o',x.keep b o' (nch b o q) m q1⟩
 ·have ok: ∀c v,H c=some v->c∉ch/\c∉Jb (X.env::X.outer):=fun c v z=>by
   refine⟨fun m=> ?_,fun m=> ?_⟩
   ·rw [(hch c m).1]at z
    cases z
   ·have:=I.stkFree c (by rw [hst]; exact m)
    rw [this]at z
    cases z
  refine(I.eI b u q).stay (fun c v hc z=> ?_) (fun _ z=>z) fun _ _ z=>z
  have:=hc.elim (fun z=>by rw [z]; exact ok b u q) fun z=>ok c _ z
  exact x.keep c v this.1 this.2 z
end
section
variable {P:aq}{w:World}{K:Frag}{mg:Str->Option Value}{base:Heap}{N:List Str}{qual:Str}{scope:Scope}{f:Addr}{cd:Value}{A:bA}{outer:List Env}{s0:ai}{H0:Hp}{E:XK}
abbrev zQ(P:aq)(w:World)(K:Frag)(mg:Str->Option Value)(base:Heap)(N:List Str)(qual:Str)(scope:Scope)(f:Addr)(cd:Value)(A:bA)(outer:List Env)(s0:ai)(H0:Hp)(E:XK):Cx:=lC (g8 P w) P w K mg base N qual scope f cd A outer s0 H0 E
theorem Bq{pins:List (Addr×Obj)}{σ:St}{H:Hp}{s:ai}{h1:Heap}{e C:Addr}{vs:List Value}(I:Inv (zQ P w K mg base N qual scope f cd A outer s0 H0 E) pins σ H s)(m:Heap.MadeExcOf s.heap h1 e (.ref C) vs)(hE:E (.ref C) none H):
  (zQ P w K mg base N qual scope f cd A outer s0 H0 E).xe (.ref e) {s with heap:=h1}:=by
 have I1:Inv (zQ P w K mg base N qual scope f cd A outer s0 H0 E) pins σ H {s with heap:=h1}:=I.kept (t':=s.toks) m.keeps
 obtain⟨t,he,_,_⟩:=m.there
 have n0:s0.heap.get? e=none:=by
  cases q:s0.heap.get? e with
  | none=>rfl
  | some o=>
   obtain⟨o',z⟩:=I.base.there e o q (by simp [lC])
   rw [m.new]at z; cases z
 refine zO (s:={s with heap:=h1}) (base:=base) I1.ok.frames I1.stack rfl he rfl rfl rfl fun h2 T x=> ?_
 have hH:H e=none:=HL I.eI m.new
 obtain⟨u,hk⟩:=zB I1 rfl rfl rfl x (fun b hb=>by
  have:b=e:=by simpa using hb
  subst this
  exact⟨hH,n0⟩)
 have nT:s0.heap.get? T=none:=qo (bE I1.sz x.new)
 exact⟨e,T,C,H,rfl,I.os,I.bare,u,hk,n0,nT,hH,I1.eI.fresh x.new,x.tr,hE⟩
theorem lj:Passes (g8 P w) (zQ P w K mg base N qual scope f cd A outer s0 H0 E) E:=by
 intro pins σ H s e s' I ⟨a,T,C,H',ee,os,bare,un,eI,na,nT,ha,hT,tr,hE⟩
 subst ee
 obtain⟨hh,g,d,tk,os'⟩:=s'
 obtain rfl:os'=s.os:=os
 have I1:Inv (zQ P w K mg base N qual scope f cd A outer s0 H0 E) pins σ H' {s with heap:=hh,gens:=g,drawn:=d,toks:=tk}:=I.call (h':=hh) (g':=g) (d':=d) (t':=tk) (ch:= []) un eI bare (fun b z=>absurd z (by simp))
 have n0: ∀b,s.heap.get? b=none->s0.heap.get? b=none:=fun b z=>by
  cases q:s0.heap.get? b with
  | none=>rfl
  | some o=>
   obtain⟨o',z'⟩:=I.base.there b o q (by simp [lC])
   rw [z]at z'; cases z'
 refine A8 (s:={s with heap:=hh,gens:=g,drawn:=d,toks:=tk}) (base:=base) I1.ok.frames I1.stack rfl tr fun h2 T' x=> ?_
 obtain⟨u,hk⟩:=zB I1 rfl rfl rfl x (fun b hb=>by
  have:b=a\/b=T:=by simpa using hb
  rcases this with rfl | rfl
  ·exact⟨ha,n0 _ na⟩
  ·exact⟨hT,n0 _ nT⟩)
 have nT':s0.heap.get? T'=none:=qo (bE I1.sz x.new)
 exact⟨a,T',C,H',rfl,I.os,bare,u,hk,n0 _ na,nT',ha,I1.eI.fresh x.new,x.tr,hE⟩
end
abbrev Bg:List Value:= [.type "ValueError", .type "Exception", .type "BaseException", .type "object"]
structure yU(x:Str)(C:Addr)(mg:Str->Option Value)(base:Heap):Prop where
 ex: ∃(newId Bn inN:String) (bmN:List Value),OwnCls x C Bg newId mg base/\ExcBaseFacts Bn newId inN bmN/\Bg.contains (.type Bn)=true
def Ie(X:Cx)(ρ:fm)(E:XK)(e:Expr)(C:Addr):Prop:= ∀(M0:MP) (H0:Hp) (γ:List (D×V)) (α:Nat->Addr) (σ:St) (H:Hp) (Q:VK),Rep X.K M0 H0 γ α ρ σ H->(∀a H',bT H H'->E (.ref C) a H')->tE X e σ H Q
def vX(X:Cx)(ρ:fm)(E:XK)(st:Stmt)(C:Addr):Prop:= ∀(M0:MP) (H0:Hp) (γ:List (D×V)) (α:Nat->Addr) (σ:St) (H:Hp) (En:Ends),Rep X.K M0 H0 γ α ρ σ H->(∀a H',bT H H'->E (.ref C) a H')->tS X st En σ H
def fQ(X:Cx)(ρ:fm)(E:XK)(st:List Stmt)(C:Addr):Prop:= ∀(M0:MP) (H0:Hp) (γ:List (D×V)) (α:Nat->Addr) (σ:St) (H:Hp) (En:Ends),Rep X.K M0 H0 γ α ρ σ H->(∀a H',bT H H'->E (.ref C) a H')->oM X st En σ H
section
variable {X:Cx}{ρ:fm}{E:XK}{e c:Expr}{es:List Expr}{st:Stmt}{sts s1 s2:List Stmt}{C:Addr}{d:D}{pos p pos':Pos}{CX:gF}{k:Nat}{x:Str}{ι:Type}{args:ι->List D}{pre:ι->Prop}{res:ι->Except Addr D}
theorem Ie.call{i:ι}(F:nq X.prog X.w X.K X.mg X.base CX k x args pre res)(hr:fI k X.A)(hx:Passes CX X E)(hg:Gl X x)(ha:aY X ρ (e::es) (args i))(hp:pre i)(hres:res i= .error C)(hdb:(x==("__debug__":Str))=false:=by decide)
  (he:au (e::es) X.env=(false,eval e X.env)::au es X.env:=by rfl)(hpl:(eQ pos (au es X.env)).any (·.1)=false:=by rfl):Ie X ρ E (.Call (.Name x p) (e::es) [] pos) C:=fun M0 H0 γ α σ H Q R kE=>by
 obtain⟨f,fd,ps,F,hm,hk,hb⟩:=F.ex
 refine(xS F hr hg hm hk hb .nil hx xE hdb he hpl).to (ha M0 H0 γ α σ H _ R fun vs H1 s1 d1=> ?_)
 show mX X.K args pre res (vs ++ []) H1 Q E
 rw [bq]
 exact⟨i,MM M0 ρ α,iZ R s1,d1,hp,(fun d' e=>by rw [hres]at e; cases e),(fun C' e a H2 s2=>by rw [hres]at e; cases e; exact kE a H2 (s1.trans s2))⟩
theorem vX.expr(h:Ie X ρ E e C)(hs:dh e none pos.line X.env=pure false:=by rfl):vX X ρ E (.Expr e pos) C:=fun M0 H0 γ α σ H En R kE=>(oQ iu hs).to (h M0 H0 γ α σ H _ R kE)
theorem vX.ite{t:Bool}(h:cU X ρ c t)(h1:t=true->fQ X ρ E s1 C)(h2:t=false->fQ X ρ E s2 C):vX X ρ E (.If c s1 s2 pos) C:=fun M0 H0 γ α σ H En R kE=>
 (zf Fc f_ f_).to (h M0 H0 γ α σ H _ R fun H1 s=>by
  cases e:t with
  | true=>exact uv (h1 e M0 H0 γ α σ H1 _ (R.next s) fun a H' s'=>kE a H' (s.trans s'))
  | false=>exact sG (h2 e M0 H0 γ α σ H1 _ (R.next s) fun a H' s'=>kE a H' (s.trans s')))
theorem fQ.here(h:vX X ρ E st C):fQ X ρ E (st::sts) C:=fun M0 H0 γ α σ H En R kE=>(dS t_ f_).to (h M0 H0 γ α σ H _ R kE)
theorem fQ.expr(h:aw X ρ e d)(k:fQ X ρ E sts C)(hs:dh e none pos.line X.env=pure false:=by rfl):fQ X ρ E (.Expr e pos::sts) C:=fun M0 H0 γ α σ H En R kE=>
 (dS t_ f_).to ((oQ iu hs).to (h M0 H0 γ α σ H _ R fun v H' s _=>k M0 H0 γ α σ H' En (R.next s) fun a H2 s2=>kE a H2 (s.trans s2)))
end
section
variable {P:aq}{w:World}{K:Frag}{mg:Str->Option Value}{base:Heap}{N:List Str}{qual:Str}{scope:Scope}{f:Addr}{cd:Value}{A:bA}{outer:List Env}{s0:ai}{H0:Hp}{E:XK}
theorem vX.raise{ρ:fm}{x:Str}{C:Addr}{e:Expr}{d:D}{np cpos pos:Pos}(O:yU x C mg base)(hg:Gl (zQ P w K mg base N qual scope f cd A outer s0 H0 E) x)(he:aw (zQ P w K mg base N qual scope f cd A outer s0 H0 E) ρ e d)
  (hs:au [e] (zQ P w K mg base N qual scope f cd A outer s0 H0 E).env= [(false,eval e (zQ P w K mg base N qual scope f cd A outer s0 H0 E).env)]:=by rfl)(hdb:(x==("__debug__":Str))=false:=by decide):
  vX (zQ P w K mg base N qual scope f cd A outer s0 H0 E) ρ E (.Raise (some (.Call (.Name x np) [e] [] cpos)) none pos) C:=fun M0 Hb γ α σ H En R kE pins s I=>by
 obtain⟨newId,Bn,inN,bmN,O,Fn,hBn⟩:=O.ex
 obtain⟨tl,N',nm,q,bs,hdct,sn,sub,ab,col,dd,k0,k1,k2,k3,k5,mN,hC,hN,hni,T⟩:=O.obj
 have hlen: ∀us:List Value,us.length=1->us.length<=sizeLine:=fun us h=>by rw [h]; decide
 refine wpAny_Raise_call_subU (C:=C) (nm:=nm) (q:=q) (N:=N') (bs:=bs) (bm:=tl) (hdct:=hdct) (sn:=sn) (sub:=sub) (ab:=ab) (col:=col) (dd:=dd) (k0:=k0) (k1:=k1) (k2:=k2) (k3:=k3) (k5:=k5) (newId:=newId) Fn hBn yF (mN:=mN) (T.hasType yF.hasBase) (I.ok.hd rfl) (by rw [hs]; rfl) hni (nt I hg O.bound ⟨rfl, ?_⟩ hdb)
 have run:=(eu (iu (X:=zQ P w K mg base N qual scope f cd A outer s0 H0 E) (e:=e)) gZ hs) cpos pins s σ H (fun vs H1=>vs.length=1/\bT H H1) I (he M0 Hb γ α σ H _ R fun v H1 s1 _=>⟨rfl,s1⟩)
 rw [hs]at run ⊢
 refine Calls.evalArgs_plain (bW run (fun us s2 h2=> ?_) fun _ _ z=>z)
 obtain⟨vs,H1,I2,r2,l1,sm⟩:=h2
 have kp: ∀b o,base.get? b=some o->s2.heap.get? b=some o:=I2.bk
 exact⟨rfl,hlen us (r2.length▸l1),kp _ _ hC,hN.keeps kp,T.keeps kp,fun h' ex m=>Bq I2 m (kE none H1 sm)⟩
end
section
variable {P:aq}{w:World}{K:Frag}{mg:Str->Option Value}{base:Heap}{k:Nat}{x qual:Str}{st:Stmt}{f:Addr}{fd:bj}{N ps:List Str}{ι:Type}{args:ι->List D}{pre:ι->Prop}{res:ι->Except Addr D}
theorem oY(F:lu K x qual st f fd)(S:bV N ps (aE st))(hm:mg x=some (.ref f))(hb:Binds K fd ps [])(hl: ∀i,(args i).length=ps.length)
  (body: ∀(cdv:Value) (A:bA) (outer:List Env) (s:ai) (H:Hp) (E:XK) (i:ι) (M0:MP),pre i->fI k (A.deeper (kM qual (aE st) s.heap.objs.size f cdv))->
   (∃d,res i= .ok d/\WS (zQ P w K mg base N qual (aE st) f cdv A outer s H E).nox M0 H (aP st) (sC N (args i)) {N:=fun _=>d= .non,R:=fun d'=>d'=d})\/
   ∃C,res i= .error C/\fQ (zQ P w K mg base N qual (aE st) f cdv A outer s H E) (sC N (args i)) E (aP st) C):nq P w K mg base (g8 P w) (k+1) x args pre res:=by
 refine⟨f,fd,ps, ?_,hm,F.kp,hb⟩
 obtain⟨oc,od,kV,doc,pm,an,cdv,ct,osl,rfl,lk,hcd⟩:=F.ex
 refine Ae lk hcd S (fun vs H Q E ⟨i,M0,_,h,_⟩=>by rw [h.len,hl]) fun A outer s H vs Q E hr hsp=> ?_
 obtain⟨i,M0,hM,h,hp,k1,k2⟩:=hsp
 rcases body cdv A outer s H E i M0 hp hr with⟨d,hd,ws⟩ | ⟨C,hC,rs⟩
 ·refine⟨oM _ (aP st),(f_ (X:=(zQ P w K mg base N qual (aE st) f cdv A outer s H E).nox)).nox, ?_⟩
  refine oM.mono (En:=ends K M0 H [] {N:=fun _=>d= .non,R:=fun d'=>d'=d}) (fun σ' H' ⟨α,ρ,R,e⟩=> ?_) (fun v H' ⟨d',e,sm,dn⟩=> ?_) (fun _ _ ⟨_,_,_,z⟩=>z.elim) (fun _ _ ⟨_,_,_,z⟩=>z.elim) (ws [] (fun _=>0) _ H (rep0 hM h))
  ·exact k1 d hd .non H' R.same (by rw [e]; exact rfl)
  ·subst e
   exact k1 _ hd v H' sm dn
 ·exact⟨oM _ (aP st),f_ (X:=zQ P w K mg base N qual (aE st) f cdv A outer s H E),rs M0 H [] (fun _=>0) _ H _ (rep0 hM h) fun a H' sm=>k2 C hC a H' sm⟩
end
abbrev zc(A:bA):bA:={A with handled:=none}
abbrev Cx.loud(X:Cx):Cx:={X with calm:=false}
structure G_(P:aq)(w:World)(K:Frag)(mg:Str->Option Value)(base:Heap)(CX:gF)(k:Nat)(f:Addr)(fd:bj)(ps:List Str)(sp:Sp):Prop where
 len: ∀vs H Q E,sp vs H Q E->vs.length=ps.length
 run: ∀(A:bA) (outer:List Env) (s:ai) (H:Hp) (args:Args) (us:List Value) (vs:List V) (Q:VK) (E:XK),fI k (zc A)->yi P w K mg base A outer s H->xl s fd args (ps.zip us)->Vals vs us->sp vs H Q E->
  fK (model P w) A (.call (.ref f) args) (CR CX outer P w H s Q E) s
theorem Ia{CX:gF}{P:aq}{w:World}{K:Frag}{mg:Str->Option Value}{base:Heap}{N:List Str}{qual:Str}{scope:Scope}{f:Addr}{cd:Value}{A:bA}{outer:List Env}{s s1:ai}{H H1:Hp}{E:XK}{pins:List (Addr×Obj)}{σ:St}
  (I:Inv (lC CX P w K mg base N qual scope f cd (zc A) outer s H E) pins σ H1 s1):Inv (Cx.loud (lC CX P w K mg base N qual scope f cd A outer s H E)) pins σ H1 s1:=
 ⟨⟨I.ok.mod,I.ok.kind,I.ok.glob,I.ok.blt,I.ok.above,I.ok.inj,I.ok.has,I.ok.Fb,fun h=>absurd h aF,I.ok.frames,I.ok.sF,I.ok.J7,I.ok.bs,I.ok.yH,I.ok.rM,I.ok.uw,I.ok.mr,I.ok.AY⟩,I.os,I.bare,I.base,I.loc,I.cell,I.free,I.i0,I.pin,I.eI,I.len⟩
theorem LZ{CX:gF}{P:aq}{w:World}{K:Frag}{mg:Str->Option Value}{base:Heap}{k:Nat}{f:Addr}{name qual:Str}{params:Arguments}{body:List Stmt}{scope:Scope}{dV kV doc pm cdv ct oc:Value}{an od:Option Addr}
  {osl:Array (Option Value)}{N ps:List Str}{sp:Sp}(lk:K.lookup f=some ⟨oc,od, .func (aU name qual params body scope dV kV doc pm an cdv ct),osl⟩)(hcd:aQ K cdv qual=true)(S:bV N ps scope)
  (len: ∀vs H Q E,sp vs H Q E->vs.length=ps.length)
  (hbody: ∀(A:bA) (outer:List Env) (s:ai) (H:Hp) (vs:List V) (Q:VK) (E:XK),fI k (zc (A.deeper (kM qual scope s.heap.objs.size f cdv)))->sp vs H Q E->
   oM (Cx.loud (lC CX P w K mg base N qual scope f cdv A outer s H E)).nox body {nx:=fun _ H'=>Q .non H',rt:=Q} (start N vs) H):
  G_ P w K mg base CX (k+1) f (aU name qual params body scope dV kV doc pm an cdv ct) ps sp:=by
 refine⟨len,fun A outer s H args us vs Q E hr e0 hb r hsp=> ?_⟩
 have hl:=len _ _ _ _ hsp
 have KX:K.In s.heap:=e0.mod.wR.keeps fun b o e=>(e0.bs b o e).1
 have lim:s.heap.NoLimit:=e0.mod.nolimit.keeps fun b o e=>(e0.bs b o e).1
 have hkind: ∀y∈ps.zip us,scope.names.lookup y.1=some .local\/(scope.names.lookup y.1=some .cell/\((cellsFrom (s.heap.objs.size+1) scope.names []).lookup y.1).isSome=true):=fun⟨n,v⟩ hy=>
  (S.par n (pb hy).1).elim .inl fun q=> .inr ⟨q,BB _ _ _ (.inl q)⟩
 have hdep:=hr.depth
 refine codeAny_call_function (A:=A) hdep (KX _ _ lk) rfl S.co S.gen rfl (PySem.W.codeRec_of KX hcd) (hb _ _ _ _ ?_)
 refine wpAny_newFunctionEnv_cells S.kind hkind fun env he s1 x=> ?_
 subst he
 refine⟨lim.keeps x.toInCall.keep,codeAny_func ?_⟩
 have e1:yi P w K mg base (zc A) outer s H:=⟨e0.frames,e0.mod,e0.bs,e0.yH,e0.mr,e0.AY,e0.eI,e0.bare⟩
 have I:=Ia (CX:=CX) (A:=A) (E:=E) (wI (A:=zc A) (CX:=CX) (E:=E) S rfl e1 hl r x)
 have t:=hbody A outer s H vs Q E (hr.deeper _) hsp
 have I':Inv (Cx.loud (lC CX P w K mg base N qual scope f cdv A outer s H E)).nox [] (start N vs) H s1:=⟨⟨I.ok.mod,I.ok.kind,I.ok.glob,I.ok.blt,I.ok.above,I.ok.inj,I.ok.has,I.ok.Fb,I.ok.hd,I.ok.frames,I.ok.sF,I.ok.J7,I.ok.bs,I.ok.yH,I.ok.rM,I.ok.uw,I.ok.mr,I.ok.AY⟩,I.os,I.bare,I.base,I.loc,I.cell,I.free,I.i0,I.pin,I.eI,I.len⟩
 refine bW (t [] s1 I') (fun fl s' hs=> ?_) fun e s' hs=>hs.elim
 cases fl with
 | ret u=>obtain⟨v,σ',H',J,rv,q⟩:=hs; exact⟨v,H',J.os,J.bare,J.base,J.eI,rv,q⟩
 | next=>obtain⟨σ',H',J,q⟩:=hs; exact⟨.non,H',J.os,J.bare,J.base,J.eI,rfl,q⟩
 | brk=>obtain⟨_,_,_,q⟩:=hs; exact cS q
 | cont=>obtain⟨_,_,_,q⟩:=hs; exact cS q
structure Mo(P:aq)(w:World)(K:Frag)(mg:Str->Option Value)(base:Heap)(CX:gF)(k:Nat)(x:Str){ι:Type}(args:ι->List D)(pre:ι->Prop)(res:ι->D):Prop where
 ex: ∃(f:Addr) (fd:bj) (ps:List Str),G_ P w K mg base CX k f fd ps (mX K args pre fun i=> .ok (res i))/\mg x=some (.ref f)/\aK K (.ref f)=true/\Binds K fd ps []
section
variable {X:Cx}{ρ:fm}{e:Expr}{es:List Expr}{d:D}{pos p:Pos}{CX:gF}{k:Nat}{x:Str}{ι:Type}{args:ι->List D}{pre:ι->Prop}{res:ι->D}
theorem Ke{pins:List (Addr×Obj)}{σ:St}{H:Hp}{s:ai}{Q:VK}{us:List Value}{vs:List V}{f:Addr}{fd:bj}{ps:List Str}{sp:Sp}{E:XK}(F:G_ X.prog X.w X.K X.mg X.base CX k f fd ps sp)(hr:fI k (zc X.A))(hb:Binds X.K fd ps [])(hx:Passes CX X E)
  (I:Inv X pins σ H s)(r:Vals vs us)(h:sp vs H Q E):wpAny (model X.prog X.w) X.A (call (.ref f) us) (EP X pins σ Q) X.xe s:=by
 have hl:us.length=ps.length:=by rw [<-r.length]; exact F.len _ _ _ _ h
 have hbt:=hb s us I.kIn (by rw [bq]; exact hl)
 rw [bq]at hbt
 refine yx (jB (F.run X.A X.stack s H ⟨us, []⟩ us vs Q E hr I.env0 hbt r h) fun r s' hq=> ?_)
 cases r with
 | error e=>exact hx pins σ H s e s' I hq
 | ok fl=>
  cases fl with
  | ret u=>exact I.after hq
  | next=>exact cS hq
  | brk=>exact cS hq
  | cont=>exact cS hq
theorem aw.callH{i:ι}(F:Mo X.prog X.w X.K X.mg X.base CX k x args pre res)(hr:fI k (zc X.A))(hx:Passes CX X E0)(hg:Gl X x)(ha:aY X ρ (e::es) (args i))(hp:pre i)(hres:res i=d)(hdb:(x==("__debug__":Str))=false:=by decide)
  (he:au (e::es) X.env=(false,eval e X.env)::au es X.env:=by rfl)(hpl:(eQ pos (au es X.env)).any (·.1)=false:=by rfl):aw X ρ (.Call (.Name x p) (e::es) [] pos) d:=fun M0 H0 γ α σ H Q R kk=>by
 obtain⟨f,fd,ps,F,hm,hk,hb⟩:=F.ex
 intro pins s I
 refine jf (nt I hg hm ?_ hdb)
 have run:=xE (X:=X) (es:=e::es) pos pins s σ H (fun vs H1=>bT H H1/\cN X.K (MM M0 ρ α) H1 (args i) vs) I (ha M0 H0 γ α σ H _ R fun vs H1 s1 d1=>⟨s1,d1⟩)
 refine rW (h₀:=X.base) I.ok.mod.wR hk (fg run fun us s1 ⟨vs,H1,I1,r,sm,d1⟩=>⟨I1.kIn, ?_⟩) he hpl
 exact Ke F hr hb hx I1 r ⟨i,MM M0 ρ α,iZ R sm,d1,hp,(fun d' e v H2 s2 dn=>by cases e; exact kk v H2 (sm.trans s2) (hres▸dn)),fun C e=>by cases e⟩
end
section
variable {P:aq}{w:World}{K:Frag}{mg:Str->Option Value}{base:Heap}{CX:gF}{k:Nat}{x qual:Str}{st:Stmt}{f:Addr}{fd:bj}{N ps:List Str}{ι:Type}{args:ι->List D}{pre:ι->Prop}{res:ι->D}
theorem Ju(F:lu K x qual st f fd)(S:bV N ps (aE st))(hm:mg x=some (.ref f))(hb:Binds K fd ps [])(hl: ∀i,(args i).length=ps.length)
  (body: ∀(cdv:Value) (A:bA) (outer:List Env) (s:ai) (H:Hp) (E:XK) (i:ι) (M0:MP),pre i->fI k (zc (A.deeper (kM qual (aE st) s.heap.objs.size f cdv)))->
   WS (Cx.loud (lC CX P w K mg base N qual (aE st) f cdv A outer s H E)).nox M0 H (aP st) (sC N (args i)) {N:=fun _=>res i= .non,R:=fun d'=>d'=res i}):Mo P w K mg base CX (k+1) x args pre res:=by
 refine⟨f,fd,ps, ?_,hm,F.kp,hb⟩
 obtain⟨oc,od,kV,doc,pm,an,cdv,ct,osl,rfl,lk,hcd⟩:=F.ex
 refine LZ lk hcd S (fun vs H Q E ⟨i,M0,_,h,_⟩=>by rw [h.len,hl]) fun A outer s H vs Q E hr hsp=> ?_
 obtain⟨i,M0,hM,h,hp,k1,k2⟩:=hsp
 refine oM.mono (En:=ends K M0 H [] {N:=fun _=>res i= .non,R:=fun d'=>d'=res i}) (fun σ' H' ⟨α,ρ,R,e⟩=> ?_) (fun v H' ⟨d',e,sm,dn⟩=> ?_) (fun _ _ ⟨_,_,_,z⟩=>z.elim) (fun _ _ ⟨_,_,_,z⟩=>z.elim) (body cdv A outer s H E i M0 hp hr [] (fun _=>0) _ H (rep0 hM h))
 ·exact k1 _ rfl .non H' R.same (by rw [e]; exact rfl)
 ·subst e
  exact k1 _ rfl v H' sm dn
end
section
variable {X:Cx}{ρ:fm}{M0:MP}{H0:Hp}{P:qD}{body:List Stmt}{h0:ExceptHandler}{hs:List ExceptHandler}{pos:Pos}
theorem W1.tryOk(hx: ∀e s,X.xe e s->False)(h:WS X M0 H0 body ρ P):W1 X M0 H0 (.Try body (h0::hs) [] [] pos) ρ P:=fun γ α σ H R pins s I=>by
 refine wpAny_Try_except (bW (h γ α σ H R pins s I) (fun f s1 q=> ?_) fun e s1 z=>(hx e s1 z).elim)
 cases f with
 | next=>exact o8 q
 | ret u=>exact q
 | brk=>exact q
 | cont=>exact q
end
section
variable {M:Model}{A:bA}{E:Value->ai->Prop}{s:ai}
theorem DK{base:Heap}{env:Env}{outer:List Env}{L e T:Addr}{cls:Value}{Q:Unit->ai->Prop}(hfr:A.frames=some (env::outer))(hl:s.heap.FunFrames base (env::outer))(hf:env.frame=some L)(ht:Md s.heap e T cls)
  (h: ∀h' T',Ab (env::outer) [e,T] e T' cls s.heap h'->Q () {s with heap:=h'}):wpAny M A (vG (.ref e) env) (fun _ s'=>wpAny M A (AE (.ref e) none) Q E s') E s:=by
 obtain⟨ne,⟨oe,vs,he,hc,hd,h1,hdn⟩,oT,ts,hT,hdT,h3⟩:=ht
 subst hc
 unfold vG
 simp only [hf]
 refine aa (bK he hd h1 ?_)
 rw [if_pos (show(ak T !=aR)=true from by simp)]
 refine aa (bK hT hdT h3 ?_)
 rw [if_neg (show ¬((aR==eS L)=true)from by simp [eS])]
 refine aa (dC hT hdT (cp.mp h3).1 ?_)
 have k: ∀b,b≠T->(s.heap.update T (eN (·.setIfInBounds 3 aR))).get? b=s.heap.get? b:=fun b hb=>cB _ _ hb.symm
 have nfT: ∀b∈Jb (env::outer),b≠T:=fun b hb q=>by
  obtain⟨_,o,ho,nf⟩:=hl.mem hb
  rw [q,hT]at ho
  cases ho
  exact nf ts hdT
 refine pR (s:={s with heap:=s.heap.update T (eN (·.setIfInBounds 3 aR))}) hfr (hl.of_keeps fun b o q nf=>⟨o,(k b fun z=> ?_).trans q,rfl⟩) hf ((k e ne.symm).trans he) hd (cp.mp h1).1 hdn fun h' T' x=>h h' T' ⟨?_,x.tr,fun b o n1 n2 q=> ?_,fun b o m q=> ?_⟩
 ·rw [z,hT]at q
  cases q
  exact nf ts hdT
 ·have:=x.new
  rw [show(E6 {s with heap:=s.heap.update T (eN (·.setIfInBounds 3 aR))}).objs.size=s.heap.objs.size from Heap.size_after_update ..]at this
  exact this
 ·exact x.keep b o (fun z=>n1 (by simp at z; simp [z])) n2 ((k b fun z=>n1 (by simp [z])).trans q)
 ·exact x.slot b o m ((k b (nfT b m)).trans q)
theorem flight_again{e T:Addr}{cls:Value}{Q:Unit->ai->Prop}(ht:Md s.heap e T cls)(h: ∀h',Md h' e T cls->(∀b,b≠T->h'.get? b=s.heap.get? b)->Q () {s with heap:=h'}):wpAny M A (AE (.ref e) none) Q E s:=by
 obtain⟨ne,⟨oe,vs,he,hc,hd,h1,hdn⟩,oT,ts,hT,hdT,h3⟩:=ht
 have l3:=(cp.mp h3).1
 unfold AE
 refine aa (bK he hd h1 ?_)
 rw [if_pos (show(ak T !=aR)=true from by simp)]
 refine dC hT hdT l3 (h _ ⟨ne,⟨oe,vs, ?_,hc,hd,h1,hdn⟩,⟨_,_,dj _ hT (jT (gP hdT _)),gP hdT _,by simp [l3]⟩⟩ fun b hb=>cB _ _ hb.symm)
 rw [cB _ _ ne]
 exact he
end
section
variable {X:Cx}{pins:List (Addr×Obj)}{σ:St}{H H':Hp}{s:ai}{h':Heap}
theorem yQ{g':Array yu}{t':Nat}{d':Drawn}{ch:List Addr}(I:Inv X pins σ H s)(hch: ∀b∈ch,X.s₀.heap.get? b=none/\(∀o,s.heap.get? b=some o-> ∃vs,o.data= .fields vs)/\ ∀p∈X.pn ++ pins,p.1≠b)
  (keep: ∀b o,b∉ch->b∉uW X.stack->s.heap.get? b=some o->h'.get? b=some o)(slot: ∀b o,b∈uW X.stack->s.heap.get? b=some o-> ∃sl,h'.get? b=some {o with slots:=sl})
  (sm:bT H H')(free: ∀b o,b∉ch->s.heap.get? b=some o->H b=none->H' b=none)(eI:pG X.prog X.w H' h')(hg:mR g'):Inv X pins σ H' {s with heap:=h',gens:=g',drawn:=d',toks:=t'}:=by
 have any: ∀b o,b∉ch->s.heap.get? b=some o-> ∃sl,h'.get? b=some {o with slots:=sl}:=fun b o n q=>by
  by_cases m:b∈uW X.stack
  ·exact slot b o m q
  ·exact⟨o.slots,keep b o n m q⟩
 have neC: ∀b o,X.s₀.heap.get? b=some o->b∉ch:=fun b o q m=>by rw [(hch b m).1]at q; cases q
 obtain⟨m,hn,hl⟩:=id I.loc
 obtain⟨oL,esL,epL,hoL,hdL,rL⟩:=id hn
 have nL:X.env.locals∉ch:=fun z=>by
  obtain⟨vs,q⟩:=(hch _ z).2.1 oL hoL
  rw [hdL]at q; cases q
 have cellK: ∀x c,X.env.cells.lookup x=some c-> ∀v,s.heap.IsCell c v->h'.IsCell c v/\c∉ch:=fun x c e v ⟨o,ho,hd⟩=>by
  have nc:c∉ch:=fun z=>by
   obtain⟨vs,q⟩:=(hch c z).2.1 o ho
   rw [hd]at q; cases q
  obtain⟨sl,q⟩:=any c o nc ho
  exact⟨⟨_,q,hd⟩,nc⟩
 have nfs: ∀b o,b∉X.fs->X.s₀.heap.get? b=some o->b∉uW X.stack:=fun b o nf q z=>by
  rcases aO.mp (I.stkSub b z)with w | w
  ·exact absurd w (aJ (bf (av q) I.ok.above))
  ·exact nf w
 refine⟨I.ok,I.os,hg,⟨fun b o e n hb hx=> ?_,fun b o e n hb hx=> ?_,fun b o e n hx=> ?_,fun b o e hx=> ?_,fun b xs e=>sm _ _ (I.base.uL b xs e),fun b o xs e=>sm _ _ (I.base.sN b o xs e),fun b ps e=> ?_⟩,⟨m, ?_,fun i x v e1 e2 e3=> ?_⟩,fun x c e=> ?_,free _ _ nL hoL I.free,fun x c e=> ?_,fun p hp=> ?_,eI,I.len⟩
 ·exact keep b o (neC b o e) (nfs b o hb e) (I.base.keep b o e n hb hx)
 ·obtain⟨sl,e1⟩:=I.base.slot b o e n hb hx
  obtain⟨sl',e2⟩:=any b _ (neC b o e) e1
  exact⟨sl',e2⟩
 ·obtain⟨o',e1⟩:=I.base.there b o e hx
  exact free b o' (neC b o e) e1 (I.base.free b o e n hx)
 ·obtain⟨o',e1⟩:=I.base.there b o e hx
  obtain⟨sl,e2⟩:=any b o' (neC b o e) e1
  exact⟨_,e2⟩
 ·obtain⟨m1,e1⟩:=I.base.tU b ps e
  exact⟨m1,sm _ _ e1⟩
 ·obtain⟨sl,e2⟩:=any _ oL nL hoL
  exact⟨_,esL,epL,e2,hdL,rL⟩
 ·obtain⟨u,r,l⟩:=hl i x v e1 e2 e3
  refine⟨u,r, ?_⟩
  rcases l with l | ⟨k,c,e,z⟩
  ·exact .inl l
  ·exact .inr ⟨k,c,e,(cellK x c e _ z).1⟩
 ·obtain⟨v,z⟩:=I.cell x c e
  exact⟨v,(cellK x c e v z).1⟩
 ·obtain⟨v,z⟩:=I.cell x c e
  obtain⟨o,ho,_⟩:=id z
  exact free c o (cellK x c e v z).2 ho (I.i0 x c e)
 ·obtain⟨e,n,ne,nf,d⟩:=I.pin p hp
  have nch:p.1∉ch:=fun z=>(hch p.1 z).2.2 p hp rfl
  have nst:p.1∉uW X.stack:=fun z=>by
   rcases aO.mp (I.stkSub _ z)with w | w
   ·exact ne w
   ·exact nf w
  exact⟨keep _ _ nch nst e,free _ _ nch e n,ne,nf,d⟩
end
def Vc(X:Cx)(pn:List (Addr×Obj))(W:Addr->St->Hp->Prop)(e:Value)(s':ai):Prop:=
 ∃(a T C:Addr) (σ':St) (H':Hp) (pins':List (Addr×Obj)),e= .ref a/\Inv {X with pn:=pn} pins' σ' H' s'/\Md s'.heap a T (.ref C)/\H' a=none/\H' T=none/\X.s₀.heap.get? a=none/\X.s₀.heap.get? T=none/\(∀p∈pn,p.1≠a/\p.1≠T)/\W C σ' H'
def KW(X:Cx)(pn:List (Addr×Obj))(W:Addr->St->Hp->Prop):Cx:={X with pn:=pn,xe:=Vc X pn W}
theorem Hn{X:Cx}{pins:List (Addr×Obj)}{σ:St}{H:Hp}{s:ai}{E:Value->ai->Prop}(I:Inv X pins σ H s):Inv {X with xe:=E} pins σ H s:=
 ⟨⟨I.ok.mod,I.ok.kind,I.ok.glob,I.ok.blt,I.ok.above,I.ok.inj,I.ok.has,I.ok.Fb,I.ok.hd,I.ok.frames,I.ok.sF,I.ok.J7,I.ok.bs,I.ok.yH,I.ok.rM,I.ok.uw,I.ok.mr,I.ok.AY⟩,I.os,I.bare,I.base,I.loc,I.cell,I.free,I.i0,I.pin,I.eI,I.len⟩
theorem LC{X:Cx}{pins:List (Addr×Obj)}{σ:St}{H:Hp}{s:ai}{W:Addr->St->Hp->Prop}(I:Inv X pins σ H s):Inv (KW X (X.pn ++ pins) W) [] σ H s:=
 ⟨⟨I.ok.mod,I.ok.kind,I.ok.glob,I.ok.blt,I.ok.above,I.ok.inj,I.ok.has,I.ok.Fb,I.ok.hd,I.ok.frames,I.ok.sF,I.ok.J7,I.ok.bs,I.ok.yH,I.ok.rM,I.ok.uw,I.ok.mr,I.ok.AY⟩,I.os,I.bare,I.base,I.loc,I.cell,I.free,I.i0,(fun p hp=>I.pin p (by
  have z:p∈(X.pn ++ pins) ++ []:=hp
  rwa [bq]at z)),I.eI,I.len⟩
theorem Lo{X:Cx}{pins pins':List (Addr×Obj)}{σ:St}{H:Hp}{s:ai}(I:Inv {X with pn:=X.pn ++ pins} pins' σ H s):Inv X pins σ H s:=
 ⟨⟨I.ok.mod,I.ok.kind,I.ok.glob,I.ok.blt,I.ok.above,I.ok.inj,I.ok.has,I.ok.Fb,I.ok.hd,I.ok.frames,I.ok.sF,I.ok.J7,I.ok.bs,I.ok.yH,I.ok.rM,I.ok.uw,I.ok.mr,I.ok.AY⟩,I.os,I.bare,I.base,I.loc,I.cell,I.free,I.i0,(fun p hp=>I.pin p (dO _ hp)),I.eI,I.len⟩
section
variable {X:Cx}{pn:List (Addr×Obj)}{W:Addr->St->Hp->Prop}
theorem Nd(hex:X.ex= []){pins:List (Addr×Obj)}{σ:St}{H:Hp}{s:ai}{e:Value}{s':ai}(I:Inv (KW X pn W) pins σ H s)(h:g8 X.prog X.w X.stack H s (fun v _ H'=> ∃C,v= .ref C/\W C σ H') e s'):(KW X pn W).xe e s':=by
 obtain⟨a,T,C,H',ee,os,bare,un,eI,na,nT,ha,hT,tr,C',eC,hW⟩:=h
 subst ee
 cases eC
 obtain⟨hh,g,d,tk,os'⟩:=s'
 obtain rfl:os'=s.os:=os
 have I1:Inv (KW X pn W) pins σ H' {s with heap:=hh,gens:=g,drawn:=d,toks:=tk}:=I.call (h':=hh) (g':=g) (d':=d) (t':=tk) (ch:= []) un eI bare (fun b z=>absurd z (by simp))
 have n0: ∀b,s.heap.get? b=none->X.s₀.heap.get? b=none:=fun b z=>by
  cases q:X.s₀.heap.get? b with
  | none=>rfl
  | some o=>
   obtain⟨o',z'⟩:=I.base.there b o q (by show b∉X.ex; rw [hex]; simp)
   rw [z]at z'; cases z'
 refine⟨a,T,C,σ,H',pins,rfl,Hn (E:=X.xe) I1,tr,ha,hT,n0 _ na,n0 _ nT,fun p hp=> ?_,hW⟩
 have q:=(I.pin p (dO _ hp)).1
 exact⟨(fun z=>by rw [z,na]at q; cases q),(fun z=>by rw [z,nT]at q; cases q)⟩
def MB(X:Cx)(W:Addr->St->Hp->Prop)(ρ:fm)(e:Expr)(C:Addr):Prop:= ∀(M0:MP) (H0:Hp) (γ:List (D×V)) (α:Nat->Addr) (σ:St) (H:Hp) (Q:VK),Rep X.K M0 H0 γ α ρ σ H->(∀H',bT H H'->W C σ H')->tE X e σ H Q
def nj(X:Cx)(W:Addr->St->Hp->Prop)(ρ:fm)(st:List Stmt)(C:Addr):Prop:= ∀(M0:MP) (H0:Hp) (γ:List (D×V)) (α:Nat->Addr) (σ:St) (H:Hp) (En:Ends),Rep X.K M0 H0 γ α ρ σ H->(∀H',bT H H'->W C σ H')->oM X st En σ H
end
section
variable {X:Cx}{pn:List (Addr×Obj)}{W:Addr->St->Hp->Prop}{ρ:fm}{e c:Expr}{es:List Expr}{sts s1 s2:List Stmt}{C:Addr}{pos p pos':Pos}{k:Nat}{x y:Str}{ι:Type}{args:ι->List D}{pre:ι->Prop}{res:ι->Except Addr D}
theorem MB.call{i:ι}(hex:X.ex= [])(F:nq X.prog X.w X.K X.mg X.base (g8 X.prog X.w) k x args pre res)(hr:fI k X.A)(hg:Gl X x)(ha:aY (KW X pn W) ρ (e::es) (args i))(hp:pre i)(hres:res i= .error C)(hdb:(x==("__debug__":Str))=false:=by decide)
  (he:au (e::es) X.env=(false,eval e X.env)::au es X.env:=by rfl)(hpl:(eQ pos (au es X.env)).any (·.1)=false:=by rfl):MB (KW X pn W) W ρ (.Call (.Name x p) (e::es) [] pos) C:=fun M0 H0 γ α σ H Q R kE=>by
 obtain⟨f,fd,ps,F,hm,hk,hb⟩:=F.ex
 intro pins s I
 refine jf (nt I hg hm ?_ hdb)
 have run:=xE (X:=KW X pn W) (es:=e::es) pos pins s σ H (fun vs H1=>bT H H1/\cN X.K (MM M0 ρ α) H1 (args i) vs) I (ha M0 H0 γ α σ H _ R fun vs H1 s1 d1=>⟨s1,d1⟩)
 refine rW (h₀:=X.base) I.ok.mod.wR hk (fg run fun us s1 ⟨vs,H1,I1,r,sm,d1⟩=>⟨I1.kIn, ?_⟩) he hpl
 have hsp:mX X.K args pre res vs H1 Q (fun v _ H'=> ∃C,v= .ref C/\W C σ H'):=⟨i,MM M0 ρ α,iZ R sm,d1,hp,(fun d' e=>by rw [hres]at e; cases e),(fun C' e a H2 s2=>by rw [hres]at e; cases e; exact⟨C,rfl,kE H2 (sm.trans s2)⟩)⟩
 have hl:us.length=ps.length:=by rw [<-r.length]; exact F.len _ _ _ _ hsp
 have hbt:=hb s1 us I1.kIn (by rw [bq]; exact hl)
 rw [bq]at hbt
 refine yx (jB (F.run X.A X.stack s1 H1 ⟨us, []⟩ us vs Q _ hr I1.env0 hbt r hsp) fun r s' hq=> ?_)
 cases r with
 | error e=>exact Nd hex I1 hq
 | ok fl=>
  cases fl with
  | ret u=>exact I1.after hq
  | next=>exact cS hq
  | brk=>exact cS hq
  | cont=>exact cS hq
theorem nj.expr(h:MB X W ρ e C)(hs:dh e none pos.line X.env=pure false:=by rfl):nj X W ρ (.Expr e pos::sts) C:=fun M0 H0 γ α σ H En R kE=>(dS t_ f_).to ((oQ iu hs).to (h M0 H0 γ α σ H _ R kE))
theorem nj.ite{t:Bool}(h:cU X ρ c t)(h1:t=true->nj X W ρ s1 C)(h2:t=false->nj X W ρ s2 C):nj X W ρ (.If c s1 s2 pos::sts) C:=fun M0 H0 γ α σ H En R kE=>
 (dS t_ f_).to ((zf Fc f_ f_).to (h M0 H0 γ α σ H _ R fun H1 s=>by
  cases e:t with
  | true=>exact uv (h1 e M0 H0 γ α σ H1 _ (R.next s) fun H' s'=>kE H' (s.trans s'))
  | false=>exact sG (h2 e M0 H0 γ α σ H1 _ (R.next s) fun H' s'=>kE H' (s.trans s'))))
theorem nj.skip(h:cU X ρ c false)(k:nj X W ρ sts C):nj X W ρ (.If c s1 [] pos::sts) C:=fun M0 H0 γ α σ H En R kE=>
 (dS t_ f_).to (tQ h R fun H' s=>k M0 H0 γ α σ H' En (R.next s) fun H2 s2=>kE H2 (s.trans s2))
end
end Z
namespace Z
open PySem PySem.Spec PyProof.Rows
structure om(C D0:Addr)(h:Heap):Prop where
 lo: ∃nm q N bs bm hdct sn sub ab col dd k0 k1 k2 k3 k5 newId,h.get? C=some (E7 nm q C N bs bm hdct sn sub ab col dd k0 k1 k2 k3 k5 newId)/\(ak C::bm).contains (.ref D0)=true
 up: ∃nm q N bs bm hdct sn sub ab col dd k0 k1 k2 k3 k5 newId,h.get? D0=some (E7 nm q D0 N bs bm hdct sn sub ab col dd k0 k1 k2 k3 k5 newId)/\(ak D0::bm).contains (.type "BaseException")=true
theorem om.keeps{C D0:Addr}{h h':Heap}(x:om C D0 h)(k: ∀b o,h.get? b=some o->h'.get? b=some o):om C D0 h':=by
 obtain⟨⟨nm,q,N,bs,bm,hdct,sn,sub,ab,col,dd,k0,k1,k2,k3,k5,newId,e1,e2⟩,⟨nm',q',N',bs',bm',hdct',sn',sub',ab',col',dd',k0',k1',k2',k3',k5',newId',e3,e4⟩⟩:=x
 exact⟨⟨nm,q,N,bs,bm,hdct,sn,sub,ab,col,dd,k0,k1,k2,k3,k5,newId,k _ _ e1,e2⟩,⟨nm',q',N',bs',bm',hdct',sn',sub',ab',col',dd',k0',k1',k2',k3',k5',newId',k _ _ e3,e4⟩⟩
theorem zu{M:Model}{A:bA}{E:Value->ai->Prop}{s:ai}{e C D0:Addr}{oe:Obj}{Q:Bool->ai->Prop}(x:om C D0 s.heap)(he:s.heap.get? e=some oe)(hcls:oe.cls= .ref C)(hq:Q true s):wpAny M A (excMatches (.ref e) (.ref D0)) Q E s:=by
 obtain⟨⟨nm,q,N,bs,bm,hdct,sn,sub,ab,col,dd,k0,k1,k2,k3,k5,newId,hC,hcC⟩,⟨nm',q',N',bs',bm',hdct',sn',sub',ab',col',dd',k0',k1',k2',k3',k5',newId',hD,hcB⟩⟩:=x
 obtain⟨h,g,d,t,os⟩:=s
 have f:=tc_notTuple
 unfold excMatches
 repeat (first | (with_reducible refine mV he ?_; rw [hcls]) | with_reducible refine mV hD ?_ | (with_reducible refine wpAny_isSubtype_exc hD ?_; rw [hcB]) | (with_reducible refine wpAny_isSubtype_exc hC ?_; rw [hcC]) | wp_step)
 exact hq
end Z
namespace Z
open PySem PySem.Spec PyProof.Rows L2
abbrev sX(X:Cx)(a:Addr):Cx:={X with A:=X.A.mark (some (.ref a)),calm:=false,xe:=fun _ _=>False}
theorem K4{X:Cx}{pins:List (Addr×Obj)}{σ:St}{H:Hp}{s:ai}{a:Addr}(I:Inv X pins σ H s):Inv (sX X a) pins σ H s:=
 ⟨⟨I.ok.mod,I.ok.kind,I.ok.glob,I.ok.blt,I.ok.above,I.ok.inj,I.ok.has,I.ok.Fb,fun h=>absurd h aF,I.ok.frames,I.ok.sF,I.ok.J7,I.ok.bs,I.ok.yH,I.ok.rM,I.ok.uw,I.ok.mr,I.ok.AY⟩,I.os,I.bare,I.base,I.loc,I.cell,I.free,I.i0,I.pin,I.eI,I.len⟩
theorem AU{X:Cx}{pins:List (Addr×Obj)}{σ:St}{H:Hp}{s:ai}{a:Addr}(ok:X.Ok)(I:Inv (sX X a) pins σ H s):Inv X pins σ H s:=
 ⟨ok,I.os,I.bare,I.base,I.loc,I.cell,I.free,I.i0,I.pin,I.eI,I.len⟩
theorem Mg{X:Cx}{pins:List (Addr×Obj)}{σ σ':St}{H:Hp}{s:ai}{h':Heap}{m':Str->Option Value}{tk:Nat}(I:Inv X pins σ H s)(hn:h'.Ns X.env.locals m')(sb:bR X.env.locals s.heap h')(hlen:σ'.length=X.N.length)
  (hl: ∀(i:Nat) (x:Str) (v:V),X.N[i]? =some x->σ'[i]? =some (some v)->y7 X.env.scope x-> ∃u,RelV v u/\Look X.env h' m' x u):Inv X pins σ' H {s with heap:=h',toks:=tk}:=by
 have nL: ∀b o,X.s₀.heap.get? b=some o->b≠X.env.locals:=fun b o e=>aJ (bf (av e) I.ok.above)
 refine⟨I.ok,I.os,I.bare,⟨fun b o e n hb hx=> ?_,fun b o e n hb hx=> ?_,I.base.free,fun b o e hx=> ?_,I.base.uL,I.base.sN,I.base.tU⟩,⟨m',hn,hl⟩,fun y c e=> ?_,I.free,I.i0,fun p hp=> ?_,fun b u q=> ?_,hlen⟩
 ·exact(sb.2 b (nL b o e)).trans (I.base.keep b o e n hb hx)
 ·obtain⟨sl,e1⟩:=I.base.slot b o e n hb hx
  exact⟨sl,(sb.2 b (nL b o e)).trans e1⟩
 ·obtain⟨o',e1⟩:=I.base.there b o e hx
  exact⟨o',(sb.2 b (nL b o e)).trans e1⟩
 ·obtain⟨v,o,e1,e2⟩:=I.cell y c e
  exact⟨v,o,(sb.2 c (I.cne y c e)).trans e1,e2⟩
 ·obtain⟨e,n,ne,nf,d⟩:=I.pin p hp
  exact⟨(sb.2 _ ne).trans e,n,ne,nf,d⟩
 ·have nl: ∀c v,H c=some v->c≠X.env.locals:=fun c v z w=>by rw [w,I.free]at z; cases z
  refine(I.eI b u q).stay (fun c v hc z=>(sb.2 c ?_).trans z) (fun _ z=>z) fun _ _ z=>z
  rcases hc with w | w
  ·rw [w]; exact nl b u q
  ·exact nl c _ w
section
variable {X:Cx}{ρ:fm}{M0:MP}{H0:Hp}{P:qD}{body suite:List Stmt}{b0:Stmt}{cx n:Str}{np hpos pos:Pos}{j:Nat}{C D0:Addr}
theorem W1.tryRaise(hst:X.stack=X.env::X.outer)(hex:X.ex= [])(hfr:X.env.frame=some X.env.locals)(hN:X.N.Nodup)(hj:X.N[j]? =some n)(hn:X.env.scope.names.lookup n=some .local)(hlt:j < ρ.length)(hg:Gl X cx)(hm:X.mg cx=some (.ref D0))(hb:om C D0 X.base)
  (rb: ∀pn W,nj (KW X pn W) W ρ body C)(su: ∀a,WS (sX X a) M0 H0 (b0::suite) (ρ.set j (.im (.exc C))) {N:=fun ρ'=>P.N (ρ'.set j .un),R:=fun _=>False})(hdb:(cx==("__debug__":Str))=false:=by decide):
  W1 X M0 H0 (.Try body [.ExceptHandler (some (.Name cx np)) (some n) (b0::suite) hpos] [] [] pos) ρ P:=fun γ α σ H R pins s I=>by
 have run:=rb (X.pn ++ pins) (fun C' σ' H'=>C'=C/\Rep X.K M0 H0 γ α ρ σ' H') M0 H0 γ α σ H {nx:=fun _ _=>False,rt:=fun _ _=>False,bk:=fun _ _=>False,ct:=fun _ _=>False} R (fun H' sm=>⟨rfl,R.next sm⟩) [] s (LC I)
 refine wpAny_Try_except (bW run (fun f s1 q=> ?_) fun e s1 z=> ?_)
 ·cases f with
  | next=>obtain⟨_,_,_,q⟩:=q; exact q.elim
  | ret u=>obtain⟨_,_,_,_,_,q⟩:=q; exact q.elim
  | brk=>obtain⟨_,_,_,q⟩:=q; exact q.elim
  | cont=>obtain⟨_,_,_,q⟩:=q; exact q.elim
 obtain⟨a,T,C',σ',H',pins',ee,I1,tr,ha,hT,na,nT,hpn,eC,R1⟩:=z
 subst ee eC
 have I2:Inv X pins σ' H' s1:=Lo I1
 have frq:Jb (X.env::X.outer)=uW X.stack:=by rw [hst]; rfl
 refine DK (base:=X.base) (by rw [<-hst]; exact I2.ok.frames) (by rw [<-hst]; exact I2.stack) hfr tr fun h2 T' x=> ?_
 obtain⟨ne1,⟨oe1,vs1,he1,hc1,hd1,_⟩,oT1,ts1,hT1,hdT1,_⟩:=id tr
 obtain⟨ne2,⟨oe2,vs2,he2,hc2,hd2,_⟩,oT2,ts2,hT2,hdT2,_⟩:=id x.tr
 have okH: ∀c v,H' c=some v->c∉ [a,T]/\c∉uW X.stack:=fun c v z=>by
  refine⟨fun m=> ?_,fun m=> ?_⟩
  ·have:c=a\/c=T:=by simpa using m
   rcases this with rfl | rfl
   ·rw [ha]at z; cases z
   ·rw [hT]at z; cases z
  ·rw [I2.stkFree c m]at z; cases z
 have k2:pG X.prog X.w H' h2:=fun b u q=>by
  refine(I2.eI b u q).stay (fun c v hc z=> ?_) (fun _ z=>z) fun _ _ z=>z
  have:=hc.elim (fun w=>by rw [w]; exact okH b u q) fun w=>okH c _ w
  exact x.keep c v this.1 (by rw [frq]; exact this.2) z
 have I3:Inv X pins σ' H' {s1 with heap:=h2}:=by
  refine yQ (g':=s1.gens) (d':=s1.drawn) (t':=s1.toks) (ch:= [a,T]) I2 (fun b hb'=> ?_) (fun b o n1 n2 q=>x.keep b o n1 (by rw [frq]; exact n2) q) (fun b o m q=>x.slot b o (by rw [frq]; exact m) q) (bT.refl _) (fun _ _ _ _ z=>z) k2 I2.bare
  have:b=a\/b=T:=by simpa using hb'
  rcases this with rfl | rfl
  ·exact⟨na,(fun o q=>by rw [he1]at q; cases q; exact⟨_,hd1⟩),fun p hp=>(hpn p hp).1⟩
  ·exact⟨nT,(fun o q=>by rw [hT1]at q; cases q; exact⟨_,hdT1⟩),fun p hp=>(hpn p hp).2⟩
 refine wpAny_handleBy_cons (codeAny_handlers_test (nt (X:=sX X a) (K4 I3) hg hm ?_ hdb)) (by intro q; cases q)
 refine zu (s:={s1 with heap:=h2}) (hb.keeps I3.bk) he2 hc2 ?_
 refine codeAny_handlers_suite_as (flight_again (s:={s1 with heap:=h2}) x.tr fun h4 tr4 k4=> ?_)
 obtain⟨_,⟨oe4,vs4,he4,hc4,hd4,_,hdn4⟩,_⟩:=id tr4
 have hT':H' T'=none:=I2.eI.fresh x.new
 have I5:Inv X pins σ' (upd H' a (Gn a C')) {s1 with heap:=h4}:=by
  refine yQ (s:={s1 with heap:=h2}) (g':=s1.gens) (d':=s1.drawn) (t':=s1.toks) (ch:= [a,T']) I3 (fun b hb'=> ?_) (fun b o n1 n2 q=>(k4 b fun z=>n1 (by simp [z])).trans q) (fun b o m q=>⟨o.slots,(k4 b fun z=> ?_).trans q⟩) (bG ha) (fun b o n1 q z=>by rw [cD fun w=>n1 (by simp [w])]; exact z) (fun b u q=> ?_) I2.bare
  ·have:b=a\/b=T':=by simpa using hb'
   rcases this with rfl | rfl
   ·exact⟨na,(fun o q=>by rw [show Heap.get? h2 b=some oe2 from he2]at q; cases q; exact⟨_,hd2⟩),fun p hp=>(hpn p hp).1⟩
   ·refine⟨qo (bE I2.sz x.new),(fun o q=>by rw [show Heap.get? h2 b=some oT2 from hT2]at q; cases q; exact⟨_,hdT2⟩),fun p hp z=> ?_⟩
    have:=av (I2.pin p hp).1
    rw [z]at this
    exact absurd (bf this x.new) (dz _)
  ·obtain⟨_,o',ho',nf⟩:=I3.stack.mem m
   rw [z,show Heap.get? h2 T'=some oT2 from hT2]at ho'
   cases ho'
   exact nf _ hdT2
  ·by_cases hba:b=a
   ·subst hba
    rw [bO]at q
    cases q
    exact⟨⟨oe4,he4,hc4,hdn4,vs4,hd4⟩,⟨oe4,he4⟩,fun h1 h2 ⟨o,e,c⟩ kk=>⟨o,kk o e,c⟩⟩
   ·rw [cD hba]at q
    refine(I3.eI b u q).stay (fun c v hc z=>(k4 c fun w=> ?_).trans z) (fun c z=>bG ha c _ z) fun c _ z=>bG ha c _ z
    rcases hc with w' | w'
    ·rw [w']at w
     rw [w,hT']at q; cases q
    ·rw [w,hT']at w'; cases w'
 refine rK (v:= .ref a) I5 hN hj (.inl hn) rfl (fun s6 I6 _=> ?_) (.inr hn)
 have R5:Rep X.K M0 H0 γ α (ρ.set j (.im (.exc C'))) (σ'.set j (some (.ref a))) (upd H' a (Gn a C')):=(R1.next (bG ha)).set_im hlt ⟨a,rfl,bO⟩
 refine bW (su a γ α _ _ R5 pins s6 (K4 I6)) (fun f s7 q=> ?_) fun _ _ z=>z.elim
 cases f with
 | ret u=>obtain⟨_,_,_,_,_,_,q,_⟩:=q; exact q.elim
 | brk=>obtain⟨_,_,_,_,_,_,q⟩:=q; exact q.elim
 | cont=>obtain⟨_,_,_,_,_,_,q⟩:=q; exact q.elim
 | next=>
  obtain⟨σ7,H7,I7',α7,ρ7,R7,pN⟩:=q
  have I7:Inv X pins σ7 H7 s7:=AU I2.ok I7'
  obtain⟨m,hn7,hl7⟩:=id I7.loc
  refine wpAny_nameGoes_keeps (show X.env.kindOf n=some .local from hn) hn7 (by rw [I7.ok.kind]; rfl) fun h8 v hn8 sb=> ?_
  refine⟨σ7.set j none,H7,Mg I7 hn8 sb (by rw [bL]; exact I7.len) (fun i y w e1 e2 e3=> ?_),α7,ρ7.set j .un,R7.forget,pN⟩
  rcases get_set e2 with⟨_,z⟩ | ⟨ni,z⟩
  ·cases z
  ·obtain⟨u,r,l⟩:=hl7 i y w e1 z e3
   refine⟨u,r, ?_⟩
   rcases l with⟨k,l⟩ | ⟨k,c,e,l⟩
   ·have ny:y≠n:=fun w=>ni (uz hN e1 (w▸hj))
    exact .inl ⟨k,by simp [ny,l]⟩
   ·obtain⟨o,ho,hd⟩:=l
    exact .inr ⟨k,c,e,o,(sb.2 c (I7.cne y c e)).trans ho,hd⟩
end
end Z
namespace Z
open PySem PySem.Spec PySem.W PyProof.Rows
section
variable {prog:aq}{w:World}{A:bA}{E:Value->ai->Prop}{h:Heap}{g:Array yu}{d:Drawn}{t:Nat}{os:OsState}{a C:Addr}{o:Obj}{K:Frag}
theorem yS{tk:Tok}{Q:qy->ai->Prop}(X:K.In h)(hx:h.get? a=some o)(hc:o.cls= .ref C)(hcl:findIn K (.ref C) "__class__"=some (some (.builtin "object.__class__")))(hm:mroIn K C (.type "object")=some true)(I:InstAt h a o C none)(hq:Q (.done (.ret (.ref C))) ⟨h,g,d,t,os⟩):
  wpAny (model prog w) A (dF.«object.__getattribute__» ⟨[.ref a, .str "__class__" tk], []⟩) Q E ⟨h,g,d,t,os⟩:=by
 have f6:=F.slot_gs_get.lookup
 have f7:=F.slot_gs_set.lookup
 have f5:typeOf (.builtin "object.__class__")=pure (.type "getset_descriptor"):=by show builtinType _=_; rw [builtinType_eq_fast]; kernel_rfl
 have hT5:(⟨h,g,d,t,os⟩:ai).TypeIs (.builtin "object.__class__") "getset_descriptor":=f5
 have L1:=looks_findIn (M:=model prog w) X hcl
 repeat (any_goals (first | assumption | (with_reducible refine mV hx ?_; rw [hc]) | (with_reducible refine L1.at ?_) | wp_step))
 refine class_get (s:=⟨h,g,d,t,os⟩) X I hm ?_
 exact af hq
structure yO(K:Frag)(C:Addr):Prop where
 cl:findIn K (.ref C) "__class__"=some (some (.builtin "object.__class__"))
 ga:findIn K (.ref C) "__getattribute__"=some (some (.builtin "BaseException.__getattribute__"))
 gt:findIn K (.ref C) "__getattr__"=some none
 ob:mroIn K C (.type "object")=some true
 be:subIn K (.ref C) (.type "BaseException")=some true
theorem Ag{M:Model}{nameV:Value}{Q:Unit->ai->Prop}(T:yO K C)(X:K.In h)(hx:h.get? a=some o)(hc:o.cls= .ref C)(hq:Q () ⟨h,g,d,t,os⟩):wpAny M A (KA "BaseException.__getattribute__" ⟨[.ref a,nameV], []⟩) Q E ⟨h,g,d,t,os⟩:=by
 have hk:builtinKind "BaseException.__getattribute__"=some .slot:=by decide +kernel
 have hsplit:splitId "BaseException.__getattribute__"=some ("BaseException","__getattribute__"):=by decide +kernel
 have ha:=F.args_bexc_ga (.ref a) nameV
 have L2:=looks_subIn (M:=M) X T.be
 simp only [KA,hk,hsplit]
 refine aa ?_
 unfold isInstance
 repeat (first | (with_reducible refine mV hx ?_; rw [hc]) | (with_reducible refine L2.at ?_) | wp_step)
 exact hq
theorem Gz{tk:Tok}{fill expr:Bool}{Q:Value->ai->Prop}(T:yO K C)(X:K.In h)(hx:h.get? a=some o)(hc:o.cls= .ref C)(I:InstAt h a o C none)(hq:Q (.ref C) ⟨h,g,d,t,os⟩):
  wpAny (model prog w) A (getAttrBy (.ref a) (.str "__class__" tk) fill expr) Q E ⟨h,g,d,t,os⟩:=by
 have FB:=F.excAttr_ValueError
 have f3:=FB.ga.bind (.ref a)
 have hx0:(expr&&onTheHeap (nJ "BaseException.__getattribute__"))=false:=by cases expr <;> rfl
 have hx2:(nJ "BaseException.__getattribute__"==nJ "object.__getattribute__")=false:=by decide +kernel
 have hx1:(onTheHeap (ak C)&&nJ "BaseException.__getattribute__"==nJ "object.__getattribute__")=false:=by rw [hx2]; rfl
 have L1:=looks_findIn (M:=model prog w) X T.ga
 have L2:=looks_findIn (M:=model prog w) X T.gt
 repeat (any_goals (first | assumption | (with_reducible refine mV hx ?_; rw [hc]) | (with_reducible refine L1.at ?_) | (with_reducible refine L2.at ?_) | wp_step))
 refine codeAny_call_builtin FB.ga.plain F.entry_bexc_ga (Ag T X hx hc (yS X hx hc T.cl T.ob I ?_))
 repeat (any_goals (first | assumption | wp_step))
theorem Bt{Q:Option Value->ai->Prop}{s:ai}(T:yO K C)(X:K.In s.heap)(I:InstAt s.heap a o C none)(hq:Q (some (.ref C)) {s with toks:=s.toks+1}):wpAny (model prog w) A (getAttr? (.ref a) "__class__") Q E s:=by
 obtain⟨h,g,d,t,os⟩:=s
 have hx:=I.at_
 have hc:=I.cls
 unfold getAttr?
 repeat (any_goals (first | assumption | with_reducible apply Gz T X hx hc I | wp_step))
end
section
variable {K:Frag}{a C:Addr}
def ExcAt(a C:Addr)(h:Heap):Prop:= ∃o,h.get? a=some o/\o.cls= .ref C/\o.dict=none/\ ∃vs,o.data= .fields vs
theorem ExcAt.inst{h:Heap}(x:ExcAt a C h): ∃o,InstAt h a o C none:=by
 obtain⟨o,e,c,d,vs,f⟩:=x
 refine⟨o,e,c, ?_, ?_⟩
 ·obtain⟨oc,od,dt,sl⟩:=o
  cases (show dt=_ from f)
  rfl
 ·rw [d]
  trivial
theorem HZ(T:yO K C)(hcl:(clsIn K C).isSome=true):KitX K (.ref a) (.ref C) (ExcAt a C) where
 ty:=fun _ _ _ x=>let⟨o,I⟩:=x.inst; I.type
 it:=fun _ _ X _=>by
  obtain⟨cdD,hcD⟩:=Am.mp hcl
  unfold clsIn at hcD
  split at hcD
  ·rename_i c' d' cd' sl' ho
   intro A' Q' E' s' k q
   unfold isType loadHead
   exact aa (wpAny_loadPart (k _ _ (X _ _ ho)) (af q))
  ·cases hcD
 ne:=fun h tp dd its n sl X htp=>by
  obtain⟨cdD,hcD⟩:=Am.mp hcl
  refine Bool.eq_false_iff.mpr fun q=> ?_
  have e:C=tp:=Value.ref.inj (beq_iff_eq.mp q)
  subst e
  unfold clsIn at hcD
  split at hcD
  ·rename_i c' d' cd' sl' ho
   have z:=(X _ _ ho).symm.trans htp
   cases z
  ·cases hcD
 ca:=fun X x k=>let⟨o,I⟩:=x.inst; Bt T X I k
end
end Z
namespace Z
open PySem PySem.Spec PyProof.Rows L2
structure Jp(K:Frag)(C:Addr):Prop where
 t:yO K C
 c:(rf K C).isSome=true
section
variable {X:Cx}{ρ:fm}{e:Expr}{C:Addr}{p p2 pos:Pos}{x:Str}{b:Bool}
theorem wO:g7 X (.builtin "isinstance") (fun xs H Q=> ∃(a C:Addr) (v:V) (c:Value) (b:Bool),xs= [.ref a,v]/\RelV v c/\(∀u,RelV v u->u=c)/\H a=some (Gn a C)/\Jp X.K C/\aZ X.K (.ref C) c=some b/\Q (.bl b) H):=by
 intro pins s σ H xs us Q I r ⟨a,C,v,c,b,e,rc,ru,ha,T,hk,q⟩
 subst e
 obtain⟨u,c',rfl,r1,r2⟩:=vals2 r
 cases (show u=ak a from r1)
 cases ru c' r2
 obtain⟨⟨o,e1,e2,e3,vs,e4⟩,_⟩:=(show fR X.prog X.w H s.heap a (Gn a C)from I.eI a _ ha)
 exact iW (HZ T.t T.c) I.kIn ⟨o,e1,e2,e3,vs,e4⟩ hk (fun z=>nomatch z) fun tk=>⟨.bl b,H,I.tok tk,rfl,q⟩
theorem aw.isiE{C':Addr}(hg:Gl X "isinstance")(hm:X.mg "isinstance"=none)(hgC:Gl X x)(hmC:X.mg x=some (.ref C'))(h:aw X ρ e (.exc C))(T:Jp X.K C)(hk:aZ X.K (.ref C) (.ref C')=some b)
  (he:au [e, .Name x p2] X.env=(false,eval e X.env)::au [.Name x p2] X.env:=by rfl)(he2:au [.Name x p2] X.env= [(false,eval (.Name x p2) X.env)]:=by rfl)(hpl:(eQ pos (au [.Name x p2] X.env)).any (·.1)=false:=by rfl)
  (hd:(x==("__debug__":Str))=false:=by decide):aw X ρ (.Call (.Name "isinstance" p) [e, .Name x p2] [] pos) (.bl b):=fun M0 H0 γ α σ H Q R k=>
 (iy wO hg hm wo (eu iu (eu (Cm (v:= .ref C') hgC hmC rfl hd) gZ he2) he) (by decide) (by decide) he hpl).to (h M0 H0 γ α σ H _ R fun v H1 s1 d1=>by
  obtain⟨a,rfl,ha⟩:=d1
  exact⟨a,C, .ref C', .ref C',b,rfl,rfl,fun _ z=>z,ha,T,hk,k _ H1 s1 rfl⟩)
theorem aw.isiET{n:String}(hg:Gl X "isinstance")(hm:X.mg "isinstance"=none)(hgC:Gl X x)(hmC:X.mg x=none)(hv:dE x=some (.type n))(h:aw X ρ e (.exc C))(T:Jp X.K C)(hk:aZ X.K (.ref C) (.type n)=some b)
  (he:au [e, .Name x p2] X.env=(false,eval e X.env)::au [.Name x p2] X.env:=by rfl)(he2:au [.Name x p2] X.env= [(false,eval (.Name x p2) X.env)]:=by rfl)(hpl:(eQ pos (au [.Name x p2] X.env)).any (·.1)=false:=by rfl)
  (hn:x≠"__name__":=by decide)(hd:(x==("__debug__":Str))=false:=by decide):aw X ρ (.Call (.Name "isinstance" p) [e, .Name x p2] [] pos) (.bl b):=fun M0 H0 γ α σ H Q R k=>
 (iy wO hg hm wo (eu iu (eu (tL (v:= .ty n) hgC hmC hv rfl hn hd) gZ he2) he) (by decide) (by decide) he hpl).to (h M0 H0 γ α σ H _ R fun v H1 s1 d1=>by
  obtain⟨a,rfl,ha⟩:=d1
  exact⟨a,C, .ty n, .type n,b,rfl,rfl,fun _ z=>z,ha,T,hk,k _ H1 s1 rfl⟩)
end
def D.bare:Nat->D->Prop
 | _, .non=>True
 | _, .bl _=>True
 | _, .int _=>True
 | _, .str _=>True
 | n+1, .tup ds=> ∀d∈ds,D.bare n d
 | n+1, .ins _ _ ds=> ∀d∈ds,D.bare n d
 | _,_=>False
theorem cN.map1{K:Frag}{M M':MP}{H H':Hp}: ∀{ds:List D} {xs:List V},(∀d∈ds, ∀v,Dn K M H d v->Dn K M' H' d v)->cN K M H ds xs->cN K M' H' ds xs
 | [],_,_,h=>h
 | d::ds,_,k,⟨v,t,e,h1,h2⟩=>⟨v,t,e,k d (.head _) v h1,cN.map1 (fun x hx=>k x (.tail _ hx)) h2⟩
theorem Dn.bare{K:Frag}{M M':MP}{H:Hp}: ∀(n:Nat) {d:D} {v:V},D.bare n d->Dn K M H d v->Dn K M' H d v:=by
 intro n
 induction n with
 | zero=>intro d v hf h; cases d <;> first | exact h | exact hf.elim
 | succ n ih=>
  intro d v hf h
  cases d with
  | tup ds=>
   obtain⟨a,xs,e,s,r⟩:=h
   exact⟨a,xs,e,s,cN.map1 (fun d hd v=>ih (hf d hd)) r⟩
  | ins C ns ds=>
   obtain⟨a,dx,fs,e,s,hn,r⟩:=h
   exact⟨a,dx,fs,e,s,hn,cN.map1 (fun d hd v=>ih (hf d hd)) r⟩
  | non=>exact h
  | bl _=>exact h
  | int _=>exact h
  | str _=>exact h
  | _=>exact hf.elim
theorem Il(σ:St)(i:Nat):σ.set i (σ[i]?).join=σ:=by
 apply eV
 intro j
 rw [fM]
 split
 ·rename_i e
  subst e
  split
  ·rename_i h
   rw [ah h]
   rfl
  ·rename_i h
   rw [bt (vF h)]
 ·rfl
section
variable {K:Frag}{M:MP}{H:Hp}{a b:Addr}{o:Obj}{xs ys:List V}
theorem Gx(ha:H a=some (.frz o (.lst xs)))(h:Rd H b (.lst ys)):Rd (upd H a (.lst xs)) b (.lst ys):=by
 by_cases hb:b=a
 ·subst hb
  rcases h with h | ⟨o',h⟩
  ·rw [ha]at h; cases h
  ·rw [ha]at h; cases h; exact .inl bO
 ·rcases h with h | ⟨o',h⟩
  ·exact .inl (by rw [cD hb]; exact h)
  ·exact .inr ⟨o',by rw [cD hb]; exact h⟩
theorem Hc(ha:H a=some (.frz o (.lst xs)))(h:kq K H b ys):kq K (upd H a (.lst xs)) b ys:=by
 rcases h with(h | ⟨o',h⟩) | h
 ·exact .inl (.inl (by rw [cD fun z=>by rw [z,ha]at h; cases h]; exact h))
 ·exact .inl (.inr ⟨o',by rw [cD fun z=>by rw [z,ha]at h; cases h]; exact h⟩)
 ·exact .inr h
theorem GN(ha:H a=some (.frz o (.lst xs)))(h:IQ K M H b ys):IQ K M (upd H a (.lst xs)) b ys:=by
 rcases h with⟨h,m⟩ | h
 ·exact .inl ⟨Gx ha h,m⟩
 ·exact .inr h
mutual
theorem Dn.thaw(ha:H a=some (.frz o (.lst xs))): ∀{d:D} {v:V},Dn K M H d v->Dn K M (upd H a (.lst xs)) d v
 | .non,_,x=>x
 | .bl _,_,x=>x
 | .int _,_,x=>x
 | .str _,_,x=>x
 | .tup ds,_,⟨b,ys,e,s,r⟩=>⟨b,ys,e,Hc ha s,cN.thaw ha r⟩
 | .lst ds,_,⟨b,ys,e,s,r⟩=>⟨b,ys,e,GN ha s,cN.thaw ha r⟩
 | .ins _ _ ds,_,⟨b,dx,fs,e,s,n,r⟩=>⟨b,dx,fs,e,by rw [cD fun z=>by rw [z,ha]at s; cases s]; exact s,n,cN.thaw ha r⟩
 | .exc C,_,⟨b,e,s⟩=>⟨b,e,by rw [cD fun z=>by rw [z,ha]at s; cases s]; exact s⟩
 | .dct _ _,_,⟨b,bs,e,s,l1,l2,r⟩=>⟨b,bs,e,by rw [cD fun z=>by rw [z,ha]at s; cases s]; exact s,l1,l2,cN.thaw ha r⟩
theorem cN.thaw(ha:H a=some (.frz o (.lst xs))): ∀{ds:List D} {vs:List V},cN K M H ds vs->cN K M (upd H a (.lst xs)) ds vs
 | [],_,x=>x
 | _::_,_,⟨v,r,e,p,q⟩=>⟨v,r,e,Dn.thaw ha p,cN.thaw ha q⟩
end
end
section
variable {K:Frag}{h:Heap}{mg:Str->Option Value}{x:Str}{C D0:Addr}{tl:List Value}{nid:String}
theorem Cu(ok:fi K C tl nid=true): ∃nm q N bs bm hdct sn sub ab col dd k0 k1 k2 k3 k5,K.lookup C=some (E7 nm q C N bs bm hdct sn sub ab col dd k0 k1 k2 k3 k5 nid)/\PySem.W.tailIn K tl bm=true/\PySem.W.nsOkIn K N=true/\aD K N "__init__"=some none:=by
 unfold fi at ok
 split at ok
 case h_2=>cases ok
 rename_i dct cdat slots look
 split at ok
 case h_2=>cases ok
 rename_i C2 above s0 s1 s2 s3 bid s5 em es
 simp only [hJ,bJ,beq_iff_eq]at ok
 obtain⟨⟨⟨⟨⟨w1,w2⟩,w3⟩,w4⟩,w5⟩,w6⟩:=ok
 subst w1 w2
 obtain⟨v1,v2,v3,v4,v5,v6,v7,v8,v9,v10,v11⟩:=cdat
 dsimp only at em w3 w5 w6
 subst em w3
 obtain⟨sl⟩:=slots
 have es':sl= [s0,s1,s2,s3,some (.builtin bid),s5]:=es
 subst es'
 exact⟨v1,v5,v4,v2,above,v6,v7,v8,v9,v10,dct,s0,s1,s2,s3,s5,look,w4,w5,w6⟩
theorem Dt(wR:K.In h)(hmg:mg x=some (.ref C))(ok:fi K C tl nid=true):OwnCls x C tl nid mg h:=by
 obtain⟨nm,q,N,bs,bm,hdct,sn,sub,ab,col,dd,k0,k1,k2,k3,k5,look,w4,w5,w6⟩:=Cu ok
 exact⟨hmg,bm,N,nm,q,bs,hdct,sn,sub,ab,col,dd,k0,k1,k2,k3,k5,_,wR _ _ look, .of_isNs (PySem.W.isNs_of_in wR w5),PySem.W.nsMap_none_of_in wR w5 w6,PySem.W.tail_of_in wR w4⟩
theorem yh(wR:K.In h)(hmg:mg x=some (.ref C))(ok:fi K C Bg "ValueError.__new__"=true):yU x C mg h:=
 ⟨_,_,_,_,Dt wR hmg ok,yF,by decide +kernel⟩
theorem wG{v:Value}(wR:K.In h)(ok:fi K C tl nid=true)(hm:eM K C v=some true):
  ∃nm q N bs bm hdct sn sub ab col dd k0 k1 k2 k3 k5 newId,h.get? C=some (E7 nm q C N bs bm hdct sn sub ab col dd k0 k1 k2 k3 k5 newId)/\(ak C::bm).contains v=true:=by
 obtain⟨nm,q,N,bs,bm,hdct,sn,sub,ab,col,dd,k0,k1,k2,k3,k5,look,w4,w5,w6⟩:=Cu ok
 refine⟨nm,q,N,bs,bm,hdct,sn,sub,ab,col,dd,k0,k1,k2,k3,k5,nid,wR _ _ look, ?_⟩
 unfold eM rf at hm
 rw [look]at hm
 have hm':some ((ak C::bm).contains v)=some true:=hm
 exact aH hm'
theorem uJ{tl':List Value}{nid':String}(wR:K.In h)(o1:fi K C tl nid=true)(o2:fi K D0 tl' nid'=true)(m1:eM K C (.ref D0)=some true)(m2:eM K D0 (.type "BaseException")=some true):om C D0 h:=⟨wG wR o1 m1,wG wR o2 m2⟩
end
def MN(K:Frag):Bool:=K.all fun p=> !(p.2.cls== .type "list")
theorem FY{l:La}{q:aq}{loose:List Str}{XP:(Str->Option Value)->Heap->Prop}{YP:World->Heap->Prop}{d:DefRec}{K:Params->Frag}{k:Nat}(hr:fI k sU)(hn:l.most=some 63)(hdf:d.params.defaults= [])
  (hY: ∀(w:World) (h:Heap),YP w h->(K w.params).In h)
  (F: ∀(w:World) (mg:Str->Option Value) (fa:Addr) (h:Heap),(K w.params).In h->h.Ns ax mg->mg d.name=some (.ref fa)->
   ∃fd:bj,(∀(s:ai) (u:Value),xl s fd ⟨[u], []⟩ [("script",u)])/\ ∀base:Heap,(K w.params).In base->base.Ns ax mg->nS l.prog w (K w.params) mg base (g8 l.prog w) k fa fd ["script"] (CF (K w.params))):
  PySem.W.WalkO q loose XP YP l.row.toRowW d [] (fun f vs=>PySem.call f vs):=
 L2.Jx (n:=63) (k:=k) (x:="script") (CX:=fun w=>g8 l.prog w) (sp:=fun w=>CF (K w.params)) hn (by decide) hdf hr hY F (fun w H a ns hl _ hS=>by
  refine⟨ns,L_,fun _ z=>z.elim,⟨.ref a, [],rfl,⟨a,ns.map V.int,rfl, ?_,cN.of_ints ns⟩,rfl⟩,hl,fun d' e v H' _ dn=> ?_,fun C e=>by cases e⟩
  ·rcases hS with s | s
   ·exact .inl ⟨s,fun z=>z⟩
   ·exact .inr s
  ·cases e
   exact dn) fun w H s e s' z=>lG [] H s e s' z
section
variable {K:Frag}{M0:MP}{H0 Hs H:Hp}{γ:List (D×V)}{α:Nat->Addr}{ρ:fm}{σ:St}{D0 l:Addr}{as:List Addr}{rows:List (List Int)}{o:HO}
theorem Rep.view{i:Nat}{d:D}{v:V}(r:Rep K M0 H0 γ α ρ σ H)(hi:i < ρ.length)(hσ:σ[i]? =some (some v))(h:Dn K (MM M0 ρ α) H d v):Rep K M0 H0 γ α (ρ.set i (.im d)) σ H:=by
 have e:σ.set i (some v)=σ:=by
  have:=Il σ i
  rw [hσ]at this
  exact this
 have h':=r.set_im hi h
 rwa [e]at h'
end
section
variable {X:Cx}{ρ:fm}{M0:MP}{H0 Hs H:Hp}{γ:List (D×V)}{α:Nat->Addr}{σ:St}{En:Ends}{body:List Stmt}{b e tg:Expr}{d:D}{ds:List D}{pos p1 p2 p3 p4:Pos}{x:Str}{i:Nat}{D0 l:Addr}{as:List Addr}{rows:List (List Int)}{xs:List V}
theorem MI(hi:X.N[i]? =some x)(hv:y7 X.env.scope x)(R:Rep X.K M0 H0 γ α ρ σ H)(hσ:σ[i]? =some (some (.ref l)))(hl:H l=some (.lst xs))(hz:xs.length < 1000000)(he:aw X ρ e d)
  (q: ∀H1 v,bT H H1->Dn X.K (MM M0 ρ α) H1 d v->En.nx σ (upd H1 l (.lst (xs ++ [v]))))(mc:My X (.Name x p1) "append" e p2 p3)(hd:(x==("__debug__":Str))=false:=by decide)(hcd:(x==("__classdict__":Str))=false:=by decide)
  (hsw:dh (.Call (.Attribute (.Name x p1) "append" p2) [e] [] p3) none pos.line X.env=pure false:=by rfl):tS X (.Expr (.Call (.Attribute (.Name x p1) "append" p2) [e] [] p3) pos) En σ H:=by
 obtain⟨m1,m2,m3,m4⟩:=mc
 refine(oQ (Im nW PySem.F.slot_list_append PySem.F.type_list_append oX (ng hi hv hd hcd) xE m1 m2 m3 m4 rfl) hsw).to ?_
 refine⟨_,hσ, .inl ⟨rfl,_,pU.of hl⟩,(aY.cons he aY.nil m4) M0 H0 γ α σ H _ R fun vs H1 s y=> ?_⟩
 obtain⟨v,r,rfl,e1,e2⟩:=y
 cases e2
 exact⟨l,xs,v,rfl,rfl,s _ _ hl,Ct hz,q H1 v s e1⟩
end
end Z
namespace Z
open PySem PySem.Spec PySem.W PyProof.Rows
def mx{α:Type}(lt:Nat->Nat->Bool)(n:Nat):KasT α->(α->Prop)->Prop
 | .ret a,P=>P a
 | .ask i j k,P=>i < n/\j < n/\mx lt n (k (lt i j)) P
section
variable {lt:Nat->Nat->Bool}{n:Nat}
theorem fC{α:Type}{P Q:α->Prop}(h: ∀a,P a->Q a): ∀(t:KasT α),mx lt n t P->mx lt n t Q
 | .ret a,x=>h a x
 | .ask i j k,⟨x,y,z⟩=>⟨x,y,fC h (k (lt i j)) z⟩
theorem jv{α β:Type}{P:β->Prop}{f:α->KasT β}: ∀(t:KasT α),mx lt n t (fun a=>mx lt n (f a) P)->mx lt n (t.bind f) P
 | .ret a,x=>x
 | .ask i j k,⟨x,y,z⟩=>⟨x,y,jv (k (lt i j)) z⟩
theorem z6{α:Type}{cmp:Nat->Nat->(Bool->ai->Prop)->ai->Prop}{s:ai}(hc: ∀i j C,i < n->j < n->C (lt i j) s->cmp i j C s){Q:α->ai->Prop}{P:α->Prop}(hq: ∀a,P a->Q a s): ∀(t:KasT α),mx lt n t P->t.kasWp cmp Q s
 | .ret a,x=>hq a x
 | .ask i j k,⟨x,y,z⟩=>hc i j _ x y (z6 hc hq (k (lt i j)) z)
end
structure Nw(lt:Nat->Nat->Bool)(n:Nat):Prop where
 wd: ∀i j,i < n->j < n->i≠j->lt i j=false->lt j i=true
 Hz: ∀i j,lt i j=true->lt j i=false
 tr: ∀i j k,lt i j=true->lt j k=true->lt i k=true
def Dj(lt:Nat->Nat->Bool)(p:Array Nat)(m:Nat):Prop:= ∀i j,i < j->j < m->lt (p.getD i 0) (p.getD j 0)=true
def GZ(lt:Nat->Nat->Bool)(p:Array Nat)(m:Nat):Prop:= ∀i j,i < j->j < m->lt (p.getD j 0) (p.getD i 0)=true
theorem PR.size{n:Nat}{p:Array Nat}(h:PR n p):p.size=n:=by
 have:=List.Perm.length_eq h
 simpa using this
theorem Ca{p q:Array Nat}{i j:Nat}(h:p[i]? =q[j]?):p.getD i 0=q.getD j 0:=by
 simp only [kX,h]
theorem PR.ne{n:Nat}{p:Array Nat}(h:PR n p){i j:Nat}(hi:i < n)(hj:j < n)(hne:i≠j):p.getD i 0≠p.getD j 0:=by
 have hnd:p.toList.Nodup:=h.symm.nodup List.nodup_range
 have sz:=h.size
 have e1:p.getD i 0=p.toList[i]'(by simpa [sz]using hi):=by simp [r8,sz,hi]
 have e2:p.getD j 0=p.toList[j]'(by simpa [sz]using hj):=by simp [r8,sz,hj]
 rw [e1,e2]
 intro z
 exact hne ((iE hnd).mp z)
section
variable {lt:Nat->Nat->Bool}{n:Nat}(hn:0 < n)(o:Nw lt n)
include hn o
theorem xt{p:Array Nat}(h:PR n p){i j:Nat}(hi:i < n)(hj:j < n)(hne:i≠j)(e:lt (p.getD i 0) (p.getD j 0)=false):lt (p.getD j 0) (p.getD i 0)=true:=o.wd _ _ (h.lt hn _) (h.lt hn _) (h.ne hi hj hne) e
theorem AJ{p:Array Nat}(h:PR n p): ∀(f m:Nat),1<=m->m+f<=n->Dj lt p m->mx lt n (kas_asc p f m) (fun r=>m<=r/\r<=m+f/\Dj lt p r/\(r < m+f->lt (p.getD r 0) (p.getD (r - 1) 0)=true))
 | 0,m,_,_,a=>⟨ay _,ay _,a,fun z=>absurd z (dz _)⟩
 | f+1,m,h1,h2,a=>by
  refine⟨h.lt hn _,h.lt hn _, ?_⟩
  cases e:lt (p.getD m 0) (p.getD (m - 1) 0)with
  | true=>exact⟨ay _,by omega,a,fun _=>e⟩
  | false=>
   have up:=xt hn o h (i:=m) (j:=m - 1) (by omega) (by omega) (by omega) e
   have a':Dj lt p (m+1):=fun i j hij hj=>by
    by_cases hjm:j < m
    ·exact a i j hij hjm
    ·have:j=m:=by omega
     subst this
     by_cases him:i=j - 1
     ·subst him; exact up
     ·exact o.tr _ _ _ (a i (j - 1) (by omega) (by omega)) up
   exact fC (fun r ⟨r1,r2,r3,r4⟩=>⟨by omega,by omega,r3,fun z=>r4 (by omega)⟩) _ (AJ h f (m+1) (by omega) (by omega) a')
theorem Cr{p:Array Nat}(h:PR n p): ∀(f m:Nat),1<=m->m+f<=n->GZ lt p m->mx lt n (kas_desc f p m 0) (fun r=>r.1=p/\r.2.2=0/\m<=r.2.1/\r.2.1<=m+f/\GZ lt p r.2.1)
 | 0,m,_,_,a=>⟨rfl,rfl,ay _,ay _,a⟩
 | f+1,m,h1,h2,a=>by
  refine⟨h.lt hn _,h.lt hn _, ?_⟩
  cases e:lt (p.getD m 0) (p.getD (m - 1) 0)with
  | true=>
   have a':GZ lt p (m+1):=fun i j hij hj=>by
    by_cases hjm:j < m
    ·exact a i j hij hjm
    ·have:j=m:=by omega
     subst this
     by_cases him:i=j - 1
     ·subst him; exact e
     ·exact o.tr _ _ _ e (a i (j - 1) (by omega) (by omega))
   exact fC (fun r ⟨r1,r2,r3,r4,r5⟩=>⟨r1,r2,by omega,by omega,r5⟩) _ (Cr h f (m+1) (by omega) (by omega) a')
  | false=>
   have up:=xt hn o h (i:=m) (j:=m - 1) (by omega) (by omega) (by omega) e
   refine⟨h.lt hn _,h.lt hn _, ?_⟩
   rw [up]
   exact⟨rfl,rfl,ay _,by show m<=m+(f+1); omega,a⟩
theorem Jd{p:Array Nat}(h:PR n p){m:Nat}(hm:m<=n)(a:GZ lt p m):Dj lt (kas_rev p 0 m) m:=fun i j hij hj=>by
 have sz:=h.size
 have g: ∀k,k < m->(kas_rev p 0 m).getD k 0=p.getD (m - 1 - k) 0:=fun k hk=>by
  refine Ca ?_
  have:=getElem?_mirror_all (xs:=p) (i:=0) (j:=m) (by omega) k
  rw [if_pos ⟨bN _,hk⟩]at this
  unfold kas_rev
  rw [this]
  congr 1
  omega
 rw [g i (by omega),g j hj]
 exact a (m - 1 - j) (m - 1 - i) (by omega) (by omega)
theorem Fq{p:Array Nat}(h:PR n p):mx lt n (kas_count n p) (fun r=>PR n r.2/\1<=r.1/\r.1<=n/\Dj lt r.2 r.1):=by
 unfold kas_count
 refine jv _ (fC (fun m hm=> ?_) _ (AJ hn o h (n - 1) 1 (ay _) (by omega) fun i j hij hj=>by omega))
 obtain⟨m1,m2,ma,ml⟩:=hm
 split
 ·exact⟨h,m1,by omega,ma⟩
 ·rename_i hne
  have hmn:m < n:=by
   have: ¬m=n:=fun z=>hne (by rw [z]; exact beq_self_eq_true n)
   omega
  split
  ·rename_i h1
   refine⟨h.lt hn _,h.lt hn _, ?_⟩
   rw [ma 0 (m - 1) (by omega) (by omega)]
   exact⟨h,m1,by omega,ma⟩
  ·rename_i h1
   have hm1:m=1:=by omega
   subst hm1
   unfold kas_descPart
   have d2:GZ lt p (1+1):=fun i j hij hj=>by
    have hi:i=0:=by omega
    have hj':j=1:=by omega
    subst hi hj'
    exact ml (by omega)
   refine jv _ (fC (fun r hr=> ?_) _ (Cr hn o h (n - (1+1)) (1+1) (by omega) (by omega) d2))
   obtain⟨r1,r2,r3,r4,r5⟩:=hr
   rw [r2,r1,if_neg (by decide)]
   unfold kas_tail3
   have ar:=Jd hn o h (m:=r.2.1) (by omega) r5
   refine jv _ (fC (fun k hk=> ?_) _ (AJ hn o (h.rev 0 r.2.1) (n - r.2.1) r.2.1 (by omega) (by omega) ar))
   exact⟨h.rev 0 _,by omega,by omega,hk.2.2.1⟩
theorem ua{p:Array Nat}(h:PR n p){k:Nat}(hk:k < n)(a:Dj lt p k): ∀(f l r:Nat),l<=r->r<=k->r - l<=f->(∀i,i < l->lt (p.getD i 0) (p.getD k 0)=true)->(∀i,r<=i->i < k->lt (p.getD k 0) (p.getD i 0)=true)->
  mx lt n (kas_place p k f l r) (fun x=>x<=k/\(∀i,i < x->lt (p.getD i 0) (p.getD k 0)=true)/\ ∀i,x<=i->i < k->lt (p.getD k 0) (p.getD i 0)=true)
 | 0,l,r,h1,h2,h3,hl,hr=>⟨by omega,hl,fun i hi hik=>hr i (by omega) hik⟩
 | f+1,l,r,h1,h2,h3,hl,hr=>by
  unfold kas_place
  split
  ·exact⟨by omega,hl,fun i hi hik=>hr i (by omega) hik⟩
  ·rename_i hlr
   refine⟨h.lt hn _,h.lt hn _, ?_⟩
   have hm:(l+r) / 2 < r:=by omega
   have hm':l<=(l+r) / 2:=by omega
   generalize (l+r) / 2=m at hm hm'
   cases e:lt (p.getD k 0) (p.getD m 0)with
   | true=>
    refine ua h hk a f l m hm' (by omega) (by omega) hl fun i hi hik=> ?_
    by_cases him:i=m
    ·subst him; exact e
    ·exact o.tr _ _ _ e (a m i (by omega) hik)
   | false=>
    have up:=xt hn o h (i:=k) (j:=m) hk (by omega) (by omega) e
    refine ua h hk a f (m+1) r (by omega) h2 (by omega) (fun i hi=> ?_) hr
    by_cases him:i=m
    ·subst him; exact up
    ·exact o.tr _ _ _ (a i m (by omega) (by omega)) up
theorem Gr: ∀(f:Nat) (p:Array Nat) (k:Nat),PR n p->1<=k->k+f<=n->Dj lt p k->mx lt n (kas_bin f p k) (fun p'=>PR n p'/\Dj lt p' (k+f))
 | 0,p,k,h,_,_,a=>⟨h,a⟩
 | f+1,p,k,h,h1,h2,a=>by
  unfold kas_bin
  have hk:k < n:=by omega
  refine jv _ (fC (fun l hl=> ?_) _ (ua hn o h hk a k 0 k (bN _) (ay _) (by omega) (fun i hi=>absurd hi (kO _)) fun i hi hik=>absurd (bf hik hi) (dz _)))
  obtain⟨l1,l2,l3⟩:=hl
  have sz:=h.size
  have g: ∀i,(bubble p k (k - l)).getD i 0=p.getD (if i=l then k else if l < i/\i<=k then i - 1 else i) 0:=fun i=>by
   refine Ca ?_
   rw [getElem?_bubble (by omega) (k - l) (by omega) i]
   have e:k - (k - l)=l:=by omega
   rw [e]
   repeat' split
   all_goals first | rfl | omega
  have a':Dj lt (bubble p k (k - l)) (k+1):=fun i j hij hj=>by
   rw [g i,g j]
   by_cases hjl:j < l
   ·rw [if_neg (by omega),if_neg (by omega),if_neg (by omega),if_neg (by omega)]
    exact a i j hij (by omega)
   ·by_cases hjl2:j=l
    ·rw [if_neg (show ¬i=l by omega),if_neg (by omega),if_pos hjl2]
     exact l2 i (by omega)
    ·rw [if_neg hjl2,if_pos (show l < j/\j<=k by omega)]
     by_cases hil:i=l
     ·rw [if_pos hil]
      exact l3 (j - 1) (by omega) (by omega)
     ·rw [if_neg hil]
      split
      ·exact a (i - 1) (j - 1) (by omega) (by omega)
      ·exact a i (j - 1) (by omega) (by omega)
  exact fC (fun q ⟨q1,q2⟩=>⟨q1,by rw [show k+(f+1)=k+1+f by omega]; exact q2⟩) _ (Gr f _ (k+1) (h.bub _ _) (by omega) (by omega) a')
theorem Kq:mx lt n (kas_sort n) (fun p=>PR n p/\Dj lt p n):=by
 unfold kas_sort
 refine jv _ (fC (fun r hr=> ?_) _ (Fq hn o (p:=eO (bH n)) (by unfold PR; simp)))
 obtain⟨r1,r2,r3,r4⟩:=hr
 split
 ·rename_i hlt
  have em:max r.1 1=r.1:=by omega
  rw [em]
  exact fC (fun q ⟨q1,q2⟩=>⟨q1,by rw [show n=r.1+(n - r.1) by omega]; exact q2⟩) _ (Gr hn o (n - r.1) r.2 r.1 r1 r2 (by omega) r4)
 ·have:r.1=n:=by omega
  rw [this]at r4
  exact⟨r1,r4⟩
end
def nR:List Int->List Int->Bool
 | a::as,b::bs=>if a=b then nR as bs else decide (a < b)
 | [],_::_=>true
 | _, []=>false
theorem ub: ∀{a b:List Int},a≠b->nR a b=false->nR b a=true
 | [], [],h,_=>absurd rfl h
 | [],_::_,_,h=>by cases h
 | _::_, [],_,_=>rfl
 | a::as,b::bs,h,e=>by
  unfold nR at e ⊢
  by_cases hab:a=b
  ·rw [if_pos hab]at e
   rw [if_pos hab.symm]
   exact ub (fun z=>h (by rw [hab,z])) e
  ·rw [if_neg hab]at e
   rw [if_neg fun z=>hab z.symm]
   have:=of_decide_eq_false e
   exact decide_eq_true (by omega)
theorem tR: ∀{a b:List Int},nR a b=true->nR b a=false
 | [], [],h=>by cases h
 | [],_::_,_=>rfl
 | _::_, [],h=>by cases h
 | a::as,b::bs,e=>by
  unfold nR at e ⊢
  by_cases hab:a=b
  ·rw [if_pos hab]at e
   rw [if_pos hab.symm]
   exact tR e
  ·rw [if_neg hab]at e
   rw [if_neg fun z=>hab z.symm]
   have:=of_decide_eq_true e
   exact decide_eq_false (by omega)
theorem tO: ∀{a b c:List Int},nR a b=true->nR b c=true->nR a c=true
 | [],_,_::_,_,_=>rfl
 | _, [], [],_,h=>by cases h
 | _,_::_, [],_,h=>by cases h
 | _::_, [],_::_,h,_=>by cases h
 | a::as,b::bs,c::cs,h1,h2=>by
  unfold nR at h1 h2 ⊢
  by_cases hab:a=b
  ·rw [if_pos hab]at h1
   by_cases hbc:b=c
   ·rw [if_pos hbc]at h2
    rw [if_pos (hab.trans hbc)]
    exact tO h1 h2
   ·rw [if_neg hbc]at h2
    rw [if_neg (by rw [hab]; exact hbc),hab]
    exact h2
  ·rw [if_neg hab]at h1
   have l1:=of_decide_eq_true h1
   by_cases hbc:b=c
   ·rw [if_neg (by rw [<-hbc]; exact hab), <-hbc]
    exact h1
   ·rw [if_neg hbc]at h2
    have l2:=of_decide_eq_true h2
    rw [if_neg (by omega)]
    exact decide_eq_true (by omega)
def Lr(pr:List (Value×List Int))(i j:Nat):Bool:=nR (pr.getD i (aR, [])).2 (pr.getD j (aR, [])).2
theorem OS{pr:List (Value×List Int)}(nd:(pr.map (·.2)).Nodup):Nw (Lr pr) pr.length:=by
 refine⟨fun i j hi hj hne e=>ub (fun z=>hne ?_) e,fun i j=>tR,fun i j k=>tO⟩
 have e1:(pr.getD i (aR, [])).2=(pr.map (·.2))[i]'(by rw [ae]; exact hi):=by rw [bp,aB,ah hi]; rfl
 have e2:(pr.getD j (aR, [])).2=(pr.map (·.2))[j]'(by rw [ae]; exact hj):=by rw [bp,aB,ah hj]; rfl
 rw [e1,e2]at z
 exact(iE nd).mp z
def xa(pr:List (Value×List Int))(out:List Value):Prop:= ∃q:List (Value×List Int),q.Perm pr/\q.map (·.1)=out/\q.Pairwise (fun a b=>nR a.2 b.2=true)
theorem xa.perm{pr pr':List (Value×List Int)}{out:List Value}(h:xa pr' out)(hp:pr'.Perm pr):xa pr out:=let⟨q,a,b,c⟩:=h; ⟨q,a.trans hp,b,c⟩
theorem Gq{pr:List (Value×List Int)}{vs:List Value}{p:Array Nat}(e:vs=pr.map (·.1))(h:PR vs.length p)(a:Dj (Lr pr) p vs.length):xa pr (p.toList.map fun i=>vs.getD i aR):=by
 have lv:vs.length=pr.length:=by rw [e,ae]
 have sz:=h.size
 refine⟨p.toList.map fun i=>pr.getD i (aR, []), ?_, ?_, ?_⟩
 ·refine(h.map _).trans ?_
  rw [lv]
  have:(bH pr.length).map (fun i=>pr.getD i (aR, []))=pr:=by
   apply eV
   intro i
   rw [aA]
   by_cases hi:i < pr.length
   ·rw [q8 hi,ah hi]
    simp [hi]
   ·rw [bt (by rw [cg]; omega),bt (by omega)]
    rfl
  rw [this]
 ·rw [dI]
  refine Ff fun i hi=> ?_
  rw [e]
  show(pr.getD i (aR, [])).1=(pr.map (·.1)).getD i aR
  rw [aB,aB,aA]
  cases pr[i]? <;> rfl
 ·rw [hV,cM]
  intro i j hi hj hij
  have hj':j < vs.length:=by rw [aj,sz]at hj; exact hj
  have hi':i < vs.length:=by omega
  have:=a i j hij hj'
  have g: ∀k (hk:k < p.toList.length),p.getD k 0=p.toList[k]:=fun k hk=>by rw [aj]at hk; simp [r8,hk]
  rw [g i hi,g j hj]at this
  exact this
theorem oW{α β:Type}{f:α->β}: ∀{r:List α} {l:List β},l.Perm (r.map f)-> ∃l':List α,l'.Perm r/\l'.map f=l
 | [],l,h=>⟨[],dB _,by rw [sT]at h; rw [sT,h.eq_nil]⟩
 | x::r,l,h=>by
  have hm:f x∈l:=h.mem_iff.mpr (by simp)
  obtain⟨s,t,rfl⟩:=List.append_of_mem hm
  have h2:(s ++ t).Perm (r.map f):=by
   have:=Kz.symm.trans h
   rw [bx]at this
   exact this.cons_inv
  obtain⟨l',h3,h4⟩:=oW h2
  refine⟨l'.take s.length ++ x::l'.drop s.length, ?_, ?_⟩
  ·refine Kz.trans ?_
   rw [bb]
   exact h3.cons x
  ·rw [bC,bx,List.map_take,List.map_drop,h4]
   simp
section
variable {prog:aq}{w:World}{A:bA}{E:Value->ai->Prop}{s:ai}
theorem MX{p q:Int}{t u:Tok}{b:Bool}{Q:Bool->ai->Prop}(h:Q (decide (p < q)) s):wpAny (model prog w) A (oneLt' b (.int p t) (.int q u)) Q (fun _ _=>False) s:=by
 cases b with
 | true=>exact oneLt_int h
 | false=>exact kat_one _ _ (lt_int h)
theorem zb{k:Int}{v:Value}(h:(fX prog w).is k v=true): ∃t,v=gW k t:=mQ h
theorem FC{b fin:Bool}{Q:Bool->ai->Prop}: ∀(ks ks':List Int) (l l':List Value) (i:Nat),lZ (fX prog w) ks l->lZ (fX prog w) ks' l'->(ks.length=ks'.length)->fin=false->Q (nR ks ks') s->KatLex prog w A b fin Q (l.zip l') i s
 | [], [],l,l',i,h1,h2,_,hf,hq=>by
  cases h1
  cases h2
  subst hf
  exact hq
 | [],_::_,_,_,_,_,_,hl,_,_=>by simp at hl
 | _::_, [],_,_,_,_,_,hl,_,_=>by simp at hl
 | k::ks,k'::ks',l,l',i,h1,h2,hl,hf,hq=>by
  cases h1 with
  | cons a1 r1=>
   cases h2 with
   | cons a2 r2=>
    obtain⟨t,rfl⟩:=zb a1
    obtain⟨u,rfl⟩:=zb a2
    refine kat_cons (Kw ?_)
    refine kat_go (fun e=>kat_yes (FC ks ks' _ _ (i+1) r1 r2 (by simpa using hl) hf ?_)) fun e=>kat_no (MX ?_)
    ·unfold nR at hq
     rw [if_pos (of_decide_eq_true e)]at hq
     exact hq
    ·unfold nR at hq
     rw [if_neg (of_decide_eq_false e)]at hq
     exact hq
def Mc(prog:aq)(w:World)(h:Heap)(pr:List (Value×List Int)):Prop:= ∀q∈pr, ∃b,q.1=ak b/\TK prog w h q.2 b/\q.2.length=2
theorem Mc.keep{h h':Heap}{pr:List (Value×List Int)}(x:Mc prog w h pr)(k: ∀b ob,(∃q∈pr,q.1=ak b)->h.get? b=some ob->h'.get? b=some ob):Mc prog w h' pr:=fun q hq=>by
 obtain⟨b,e,hk,hne⟩:=x q hq
 exact⟨b,e,hk.keep fun o z=>k b o ⟨q,hq,e⟩ z,hne⟩
theorem Fg{pr:List (Value×List Int)}{vs:List Value}(e:vs=pr.map (·.1))(x:Mc prog w s.heap pr)(i j:Nat)(C:Bool->ai->Prop)(hi:i < pr.length)(hj:j < pr.length)(h:C (Lr pr i j) s):kas_ask prog w A (tuples' true) vs i j C s:=by
 unfold kas_ask
 have e1:vs.getD i aR=pr[i].1:=by rw [e,aB,aA,ah hi]; rfl
 have e2:vs.getD j aR=pr[j].1:=by rw [e,aB,aA,ah hj]; rfl
 have l1:(pr.getD i (aR, []))=pr[i]:=by rw [aB,ah hi]; rfl
 have l2:(pr.getD j (aR, []))=pr[j]:=by rw [aB,ah hj]; rfl
 unfold Lr at h
 rw [l1,l2]at h
 obtain⟨b,eb,⟨o,items,n,ho,hc,hd,hit⟩,hl1⟩:=x pr[i] (a_ hi)
 obtain⟨b',eb',⟨o',items',n',ho',hc',hd',hit'⟩,hl2⟩:=x pr[j] (a_ hj)
 rw [e1,e2,eb,eb']
 have z1:items.toList.length=2:=by have:=hit.length; omega
 have z2:items'.toList.length=2:=by have:=hit'.length; omega
 refine kat_lt ho hd ho' hd' (FC _ _ _ _ 0 hit hit' (by rw [hl1,hl2]) (decide_eq_false ?_) h)
 rw [aj]at z1 z2
 omega
theorem FE{a:Addr}{pr:List (Value×List Int)}{vs:List Value}(evs:vs=pr.map (·.1)){n:Nat}{P:qy->ai->Prop}(ho:s.heap.get? a=some (cf "list" vs.toArray n))(h64:vs.length < 64)(x:vZ prog w s.heap vs)(y:Mc prog w s.heap pr)(nd:(pr.map (·.2)).Nodup)(hna: ∀v∈vs,v≠ak a)
  (h: ∀(h':Heap) (out:List Value) (c:Nat),xa pr out->h'.get? a=some (cf "list" out.toArray c)->(∀b ob,b≠a->s.heap.get? b=some ob->h'.get? b=some ob)->P (.done (.ret .none)) {s with heap:=h'}):
  wpAny (model prog w) A (dF.«list.sort» ⟨[.ref a], []⟩) P E s:=by
 have s1:=bB s.heap a (cm fun _=>(#[]:Array Value))
 obtain⟨e1,ho1⟩: ∃e1,(s.heap.update a (cm fun _=>(#[]:Array Value))).get? a=some (cf "list" #[] e1):=⟨_,eE ho fun _=> #[]⟩
 rw [list_sort_plain]
 refine aa (listItems_at ho rfl ?_)
 refine aa (fW ho rfl ?_ (by rw [aC,eA]; omega) (bN _))
 refine aa (E8 ho1 rfl ?_)
 refine aa (qu ?_ (by show vs.length<=_; rw [eA]; omega))
 refine aa (rg ?_ (bN _))
 refine bM ?_
 have ho3:(((s.heap.update a (cm fun _=>(#[]:Array Value))).push (cf "tuple" vs.toArray 0)).push (cf "list" #[] 0)).get? a=some (cf "list" #[] e1):=ag _ (ag _ ho1)
 have hk3: ∀b ob,b≠a->s.heap.get? b=some ob->(((s.heap.update a (cm fun _=>(#[]:Array Value))).push (cf "tuple" vs.toArray 0)).push (cf "list" #[] 0)).get? b=some ob:=fun b ob hb e=>ag _ (ag _ ((s1.2 b hb).trans e))
 show wpAny (model prog w) A _ P E {s with heap:=((s.heap.update a (cm fun _=>(#[]:Array Value))).push (cf "tuple" vs.toArray 0)).push (cf "list" #[] 0)}
 generalize ((s.heap.update a (cm fun _=>(#[]:Array Value))).push (cf "tuple" vs.toArray 0)).push (cf "list" #[] 0)=H3 at ho3 hk3
 have x3:vZ prog w H3 vs:=x.keep fun b ob hv e=>hk3 b ob (by rintro rfl; obtain⟨v,hv,rfl⟩:=hv; exact hna _ hv rfl) e
 have y3:Mc prog w H3 pr:=y.keep fun b ob hv e=>hk3 b ob (by rintro rfl; obtain⟨q,hq,e2⟩:=hv; exact hna _ (by rw [evs]; exact bh.mpr ⟨q,hq,rfl⟩) e2) e
 have lvs:vs.length=pr.length:=by rw [evs,ae]
 dsimp only
 have tail: ∀(out:List Value) (st:cv) (R:qy->ai->Prop),out.length=vs.length->(arrOf st).map (·.2)=eO out->fO st=none->(∀(h':Heap) (c:Nat),h'.get? a=some (cf "list" out.toArray c)->(∀b ob,b≠a->s.heap.get? b=some ob->h'.get? b=some ob)->R (.done (.ret .none)) {s with heap:=h'})->
   wpAny (model prog w) A (do
    let touched:=(<-seqEpoch a) !=e1
    Builtin.List.listUpdate (.ref a) fun _=>(arrOf st).map (·.2)
    if let some e:=fO st then rule "list.sort.comparison-raised"; throw e
    if touched then rule "list.sort.modified"; raiseError "ValueError" "list modified during sort"
    ret .none) R E {s with heap:=H3}:=by
  intro out st R hp hout hf hR
  have hsz:(eO out).size=vs.length:=by rw [aC,hp]
  rw [hout]
  have s2:=bB H3 a (cm fun _=>eO out)
  obtain⟨c2,hc2⟩: ∃c2,(H3.update a (cm fun _=>eO out)).get? a=some (cf "list" (eO out) c2):=⟨_,eE ho3 fun _=>eO out⟩
  refine aa (E8 ho3 rfl ?_)
  refine aa (fW ho3 rfl ?_ (bN _) (bE (kU hsz) (by rw [eA]; omega)))
  rw [hf]
  simp only [bne_self_eq_false,bo,if_false]
  exact af (hR _ c2 hc2 fun b ob hb e=>(s2.2 b hb).trans (hk3 b ob hb e))
 by_cases h2:vs.length < 2
 ·have hn2:vs.toArray.size < 2:=by rw [aC]; exact h2
  rw [if_pos hn2,if_pos hn2]
  refine aa (af ?_)
  refine aa ?_
  rw [StateT.run_pure]
  refine af ?_
  dsimp only
  refine tail vs _ P rfl ?_ rfl fun h' c h3 h4=>h h' vs c ⟨pr,dB _,evs.symm, ?_⟩ h3 h4
  show(vs.toArray.zip vs.toArray).map (·.2)=_
  apply j7.mp
  rw [KD,KG]
  exact j8 (ay _)
  ·match pr,lvs with
   | [],_=>exact eU
   | [q],_=>exact n8 _ _
   | _::_::_,z=>simp at z; omega
 ·have hn2: ¬vs.toArray.size < 2:=by rw [aC]; exact h2
  rw [if_neg hn2,if_neg hn2]
  obtain⟨fs,k1,k2,k3⟩:=x3.kat
  refine aa (kat_kind (T:= .type "int") k1 (by omega) (fun v hv=> ?_) (by decide) ?_)
  ·obtain⟨i,t,rfl⟩:=k3 v hv
   exact .now
  refine aa (bW (kat_run (s:={s with heap:=H3}) (Q:=fun st' s'=>s'={s with heap:=H3}/\ ∃p:Array Nat,(PR vs.length p/\Dj (Lr pr) p vs.length)/\arrOf st'=p.map (kas_item (vs.toArray.zip vs.toArray))/\fO st'=none)
   (G:=fun p s'=>(PR vs.length p/\Dj (Lr pr) p vs.length)/\s'={s with heap:=H3}) rfl (by omega) h64 (fun p' st' s' a1 a2 a3 a4=>⟨a4.2,p',a4.1,a2,a3⟩) (z6 (lt:=Lr pr) (fun i j C hi hj hC=>Fg (s:={s with heap:=H3}) evs y3 i j C (by omega) (by omega) hC) (fun p hp=>⟨hp,rfl⟩) _ (Kq (by omega) (lvs▸OS nd)))) ?_ fun _ _ e=>e)
  rintro⟨⟨⟩,st'⟩ s' ⟨rfl,p,hp,har,hf⟩
  dsimp only
  have so:=Gq evs hp.1 hp.2
  have hlen:(p.toList.map fun i=>vs.getD i aR).length=vs.length:=by rw [ae,aj,hp.1.size]
  exact tail _ st' P hlen (kat_snds rfl har) hf fun h' c h3 h4=>h h' _ c so h3 h4
theorem zV{a:Addr}{o:Obj}{es:Array (Int×Value)}{ep:Nat}{t:cV}{Q:Value->ai->Prop}(hh:A.handled=none)(S:PF (!sP w) o es ep t)(hg:s.heap.get? a=some o)(pr:List (Value×List Int))(hpr:pr.map (·.1)=es.toList.map (·.2))(y:Mc prog w s.heap pr)(nd:(pr.map (·.2)).Nodup)
  (h: ∀(h':Heap) (tk D:Nat) (out:List Value) (c:Nat),s.heap.objs.size<=D->xa pr out->h'.get? D=some (cf "list" out.toArray c)->(∀b ob,s.heap.get? b=some ob->h'.get? b=some ob)->Q (.ref D) {s with heap:=h',toks:=tk}):
  wpAny (model prog w) A (call (.builtin "sorted") [.ref a]) Q E s:=by
 have x:vZ prog w s.heap (es.toList.map (·.2)):=fun v hv=>by
  rw [<-hpr]at hv
  obtain⟨q,hq,rfl⟩:=bh.mp hv
  obtain⟨b,e,hk,hne⟩:=y q hq
  exact⟨_,b,e,hk,fun z=>by rw [z]at hne; simp at hne⟩
 refine yK kind_sorted plain_sorted entry_sorted (args_sorted1 _) ?_
 unfold dF.«sorted»
 refine aa (m:=checkCount "sorted" 1 1 _) (af ?_)
 refine aa (zk (by simpa using hh) S hg fun h1 tk vs hsz hk hp=> ?_)
 have hlen:vs.length<=4:=by rw [hp.length_eq,ae,aj]; exact S.mw
 obtain⟨pr',hpp,hpm⟩:=oW (f:=fun q:Value×List Int=>q.1) (hpr▸hp)
 have nd':(pr'.map (·.2)).Nodup:=(hpp.map _).symm.nodup nd
 refine aa (rg ?_ (by rw [eA]; omega))
 have hoL:(h1.push (cf "list" vs.toArray 0)).get? h1.objs.size=some (cf "list" vs.toArray 0):=az _ rfl
 have hk2: ∀b ob,s.heap.get? b=some ob->(h1.push (cf "list" vs.toArray 0)).get? b=some ob:=fun b ob e=>ag _ (hk b ob e)
 have ltb: ∀b ob,s.heap.get? b=some ob->b≠h1.objs.size:=fun b ob e=>aJ (N6 (av e) hsz)
 have x1:vZ prog w (h1.push (cf "list" vs.toArray 0)) vs:=fun v hv=>by
  obtain⟨ks,b,e,hkk,hne⟩:=x v (hp.mem_iff.mp hv)
  exact⟨ks,b,e,hkk.keep fun ob q=>hk2 b ob q,hne⟩
 show wpAny _ _ _ _ _ {s with heap:=h1.push (cf "list" vs.toArray 0),toks:=tk}
 refine aa (bM (bS slot_list_sort ⟨_,hoL,rfl⟩ Lg ?body (args_list_sort _)))
 case body=>
  refine FE (s:={s with heap:=h1.push (cf "list" vs.toArray 0),toks:=tk}) (pr:=pr') hpm.symm hoL (by omega) x1 (fun q hq=> ?_) nd' (fun v hv e=> ?_) fun h' out c hp2 hg2 hk3=> ?_
  ·obtain⟨b,e,hkk,hne⟩:=y q (hpp.mem_iff.mp hq)
   exact⟨b,e,hkk.keep fun ob z=>hk2 b ob z,hne⟩
  ·obtain⟨ks,b,e',⟨ob,_,_,q,_⟩,_⟩:=x v (hp.mem_iff.mp hv)
   rw [e']at e
   injection e with e
   exact ltb b ob q e
  ·exact⟨_,rfl,af ⟨_,rfl,h h' tk h1.objs.size out c (jy hsz) (hp2.perm hpp) hg2 fun b ob e=>hk3 b ob (ltb b ob e) (hk2 b ob e)⟩⟩
end
end Z
namespace Z
open PySem PySem.Spec PyProof.Rows L2
abbrev x9(a b:Int×Int):Bool:=nR (yG a) (yG b)
def tV(p:Int×Int):List (Int×Int)->List (Int×Int)
 | []=> [p]
 | q::r=>if x9 p q then p::q::r else if p=q then q::r else q::tV p r
def pk(ps:List (Int×Int)):List (Int×Int):=ps.foldr tV []
theorem ur(p x:Int×Int): ∀l,x∈tV p l↔x=p\/x∈l
 | []=>by simp [tV]
 | q::r=>by
  unfold tV
  split
  ·simp
  ·split
   ·rename_i e
    subst e
    simp
   ·rw [aO,ur p x r,aO]
    constructor
    ·rintro(h | h | h)
     ·exact .inr (.inl h)
     ·exact .inl h
     ·exact .inr (.inr h)
    ·rintro(h | h | h)
     ·exact .inr (.inl h)
     ·exact .inl h
     ·exact .inr (.inr h)
theorem uQ(x:Int×Int): ∀ps,x∈pk ps↔x∈ps
 | []=>by simp [pk]
 | p::ps=>by
  show x∈tV p (pk ps)↔_
  rw [ur,uQ x ps,aO]
theorem B7{a b:Int×Int}(h:yG a=yG b):a=b:=by
 unfold yG at h
 injection h with h1 h2
 injection h2 with h2 _
 exact Prod.ext h1 h2
theorem Cz(p:Int×Int): ∀l:List (Int×Int),l.Pairwise (fun a b=>x9 a b=true)->(tV p l).Pairwise (fun a b=>x9 a b=true)
 | [],_=>n8 _ _
 | q::r,h=>by
  unfold tV
  have h1:=cu.mp h
  split
  ·rename_i e
   refine cu.mpr ⟨fun x hx=> ?_,h⟩
   rcases aO.mp hx with rfl | hx
   ·exact e
   ·exact tO e (h1.1 x hx)
  ·rename_i e
   split
   ·exact h
   ·rename_i ne
    refine cu.mpr ⟨fun x hx=> ?_,Cz p r h1.2⟩
    rcases(ur p x r).mp hx with rfl | hx
    ·exact ub (fun z=>ne (B7 z)) (Bool.eq_false_iff.mpr e)
    ·exact h1.1 x hx
theorem Cw: ∀ps:List (Int×Int),(pk ps).Pairwise (fun a b=>x9 a b=true)
 | []=>eU
 | p::ps=>Cz p _ (Cw ps)
theorem pw_uniq: ∀{a b:List (Int×Int)},a.Pairwise (fun a b=>x9 a b=true)->b.Pairwise (fun a b=>x9 a b=true)->(∀x,x∈a↔x∈b)->a=b
 | [], [],_,_,_=>rfl
 | [],y::_,_,_,h=>by have:=(h y).mpr ck; cases this
 | x::_, [],_,_,h=>by have:=(h x).mp ck; cases this
 | x::a,y::b,ha,hb,h=>by
  have a1:=cu.mp ha
  have b1:=cu.mp hb
  have irr: ∀z:Int×Int,x9 z z=true->False:=fun z hz=>by have:=tR hz; rw [show nR (yG z) (yG z)=true from hz]at this; cases this
  have exy:x=y:=by
   rcases aO.mp ((h x).mp ck)with e | hx
   ·exact e
   ·rcases aO.mp ((h y).mpr ck)with e | hy
    ·exact e.symm
    ·exact(irr x (tO (a1.1 y hy) (b1.1 x hx))).elim
  subst exy
  rw [pw_uniq a1.2 b1.2 fun z=> ?_]
  constructor
  ·intro hz
   rcases aO.mp ((h z).mp (cA _ hz))with e | hz'
   ·subst e; exact(irr z (a1.1 z hz)).elim
   ·exact hz'
  ·intro hz
   rcases aO.mp ((h z).mpr (cA _ hz))with e | hz'
   ·subst e; exact(irr z (b1.1 z hz)).elim
   ·exact hz'
theorem Dz{ps qs:List (Int×Int)}(h: ∀x,x∈qs↔x∈ps)(hp:qs.Pairwise (fun a b=>x9 a b=true)):qs=pk ps:=pw_uniq hp (Cw ps) fun x=>(h x).trans (uQ x ps).symm
theorem GQ(ps:List (Int×Int)):(pk ps).length<=ps.length:=by
 have: ∀(p:Int×Int) l,(tV p l).length<=l.length+1:=fun p l=>by
  induction l with
  | nil=>exact ay _
  | cons q r ih=>
   unfold tV
   split
   ·simp
   ·split
    ·simp
    ·simp; omega
 induction ps with
 | nil=>exact ay _
 | cons p ps ih=>
  have:=this p (pk ps)
  show(tV p (pk ps)).length<=_
  rw [aL]
  omega
def FV(w:World)(l:Addr)(n:Nat)(val:Nat->Int×Int)(T:Nat->Addr):HO:= .ext fun h=> ∃o es ep t, ∃pr:List (Value×List Int),h.get? l=some o/\PF (!sP w) o es ep t/\pr.map (·.1)=es.toList.map (·.2)/\(pr.map (·.2)).Nodup/\
 (∀x∈pr, ∃j,j < n/\x.1=ak (T j)/\x.2=yG (val j))/\ ∀j,j < n-> ∃x∈pr,x.2=yG (val j)
section
variable {X:Cx}{ρ:fm}{e:Expr}{pos p p2 p3 p4 p5:Pos}
theorem DP(hc:X.calm=true)(hu:X.A.units+16 < cLine):g7 X (.type "set") (fun xs H Q=> ∃(q:Addr) (M:MP) (ps:List (Int×Int)),xs= [.ref q]/\qM X.K M H (.lst (ps.map pairD)) (.ref q)/\ps.length<=4/\
  ∀l T,H l=none->(∀j p,ps[j]? =some p->kq X.K H (T j) (uj p))->Q (.ref l) (upd H l (FV X.w l ps.length (fun j=>ps.getD j (0,0)) T))):=by
 intro pins s σ H xs us Q I r ⟨q,M,ps,e,hq,hl,k⟩
 subst e
 obtain⟨u,rfl,rx⟩:=vals1 r
 cases rx
 obtain⟨q',ys,eq,sq,dn⟩:=hq
 cases eq
 obtain⟨T,hT⟩:=pairs_at dn
 obtain⟨its,r',pl,hz⟩:=I.list sq
 have hlen:=r'.length
 have hdl:=dn.len
 rw [ae]at hdl
 have get: ∀j,j < ps.length->ps[j]? =some (ps.getD j (0,0)):=fun j h=>by rw [aB,ah h]; rfl
 have tk: ∀j,j < ps.length->TK X.prog X.w s.heap (yG (ps.getD j (0,0))) (T j):=fun j h=>KS I (hT j _ (get j h)).2
 refine Hv (n:=ps.length) (val:=fun j=>yG (ps.getD j (0,0))) (T:=T) (I.ok.hd hc) hu pl.isList (by rw [aC]; omega) hl (fun i hi=> ?_) tk fun h' tkk hS hk=> ?_
 ·obtain⟨h1,_⟩:=hT i _ (get i hi)
  obtain⟨u,hu',ru⟩:=r'.get h1
  rw [show u=ak (T i)from ru]at hu'
  simpa using hu'
 ·obtain⟨o,es,ep,t,S,q1,q2,q3⟩:=hS
  obtain⟨kk,k1,k2,k3⟩:=S.nd
  have le:(es.toList.map (·.2)).length=kk.length:=by rw [ae,aj,k1]
  have key: ∀x∈(es.toList.map (·.2)).zip kk, ∃j,j < ps.length/\x.1=ak (T j)/\x.2=yG (ps.getD j (0,0)):=fun x hx=>by
   obtain⟨i,hi,e1⟩:=fY hx
   have hi2:i < kk.length:=by rw [cy]at hi; omega
   have hk2:kk[i]? =some kk[i]:=ah hi2
   obtain⟨b,e2,e3⟩:=k3 i _ hk2
   obtain⟨j,hj,e4⟩:=q2 _ (by simpa using CN e2)
   have eb:b=T j:=by injection e4 with _ z; injection z
   subst eb
   have ek:kk[i]=yG (ps.getD j (0,0)):=yC e3 ((tk j hj).keep fun o z=>hk _ o (av z) z)
   rw [gC]at e1
   have ev:(es.toList.map (·.2))[i]'(by omega)=ak (T j):=by
    have:es.toList[i]? =some (mP X.prog X.w kk[i],ak (T j)):=by rw [bD]; exact e2
    rw [bp,(aI.mp this).2]
   refine⟨j,hj, ?_, ?_⟩
   ·rw [<-e1]; exact ev
   ·rw [<-e1]; exact ek
  refine⟨.ref s.heap.objs.size,_,I.laid (t':=tkk) (fun b o e=>hk b o (av e) e) (ay _) (o:=FV X.w s.heap.objs.size ps.length (fun j=>ps.getD j (0,0)) T) ⟨⟨o,es,ep,t,(es.toList.map (·.2)).zip kk,S.get,S.pf,List.map_fst_zip (kU le), ?_,key,fun j hj=> ?_⟩,⟨o,S.get⟩,fun h1 h2 ⟨o,es,ep,t,pr,x,r⟩ kk=>⟨o,es,ep,t,pr,kk o x,r⟩⟩,rfl,k _ T I.fresh (fun j p h=>(hT j p h).2)⟩
  ·rw [j8 (kU le.symm)]; exact k2
  ·obtain⟨j',hj',he,hv⟩:=q3 j hj
   obtain⟨i,hi,e1⟩:=fY he
   have hi2:i < kk.length:=by rw [aj]at hi; omega
   obtain⟨b,e2,e3⟩:=k3 i _ (ah hi2)
   have e4:es.toList[i]? =some (mP X.prog X.w (yG (ps.getD j' (0,0))),ak (T j')):=by rw [ah hi,e1]
   rw [bD,e2]at e4
   have eb:b=T j':=by injection e4 with z; injection z with _ z; injection z
   subst eb
   have ek:kk[i]=yG (ps.getD j' (0,0)):=yC e3 ((tk j' hj').keep fun o z=>hk _ o (av z) z)
   refine⟨_,a_ (l:=(es.toList.map (·.2)).zip kk) (n:=i) (by rw [cy]; omega), ?_⟩
   rw [gC]
   exact ek.trans hv
theorem xU(hc:X.calm=true):g7 X (.builtin "sorted") (fun xs H Q=> ∃(q:Addr) (n:Nat) (val:Nat->Int×Int) (T:Nat->Addr),xs= [.ref q]/\H q=some (FV X.w q n val T)/\(∀j,j < n->kq X.K H (T j) (uj (val j)))/\
  ∀(l:Addr) (js:List Nat),H l=none->js.length<=4->(∀j∈js,j < n)->(∀j,j < n-> ∃j'∈js,val j'=val j)->js.Pairwise (fun a b=>x9 (val a) (val b)=true)->Q (.ref l) (upd H l (.lst (js.map fun j=>V.ref (T j))))):=by
 intro pins s σ H xs us Q I r ⟨q,n,val,T,e,hq,hT,k⟩
 subst e
 obtain⟨u,rfl,rx⟩:=vals1 r
 cases rx
 obtain⟨⟨o,es,ep,t,pr,hg,S,hpr,nd,q2,q3⟩,_⟩:=I.eI q _ hq
 refine zV (I.ok.hd hc) S hg pr hpr (fun x hx=> ?_) nd fun h' tk D out c hD hso hg2 hk=> ?_
 ·obtain⟨j,hj,e1,e2⟩:=q2 x hx
  exact⟨_,e1,by rw [e2]; exact KS I (hT j hj),by rw [e2]; rfl⟩
 ·obtain⟨qq,hp,hout,hpw⟩:=hso
  have hlen:qq.length<=4:=by
   rw [hp.length_eq]
   have this:pr.length=es.size:=by simpa using congrArg mT hpr
   rw [this]; exact S.mw
  obtain⟨js,j1,j2,j3⟩: ∃js:List Nat,(∀j∈js,j < n)/\qq=js.map (fun j=>(ak (T j),yG (val j)))/\True:=by
   have hall: ∀x∈qq, ∃j,j < n/\x=(ak (T j),yG (val j)):=fun x hx=>by
    obtain⟨j,hj,e1,e2⟩:=q2 x (hp.mem_iff.mp hx)
    exact⟨j,hj,Prod.ext e1 e2⟩
   clear hp hout hpw hlen
   induction qq with
   | nil=>exact⟨[],(fun j hj=>by cases hj),rfl,trivial⟩
   | cons x qq ih=>
    obtain⟨j,hj,rfl⟩:=hall x (.head _)
    obtain⟨js,a1,a2,_⟩:=ih fun x hx=>hall x (.tail _ hx)
    refine⟨j::js,fun i hi=> ?_,by rw [bx, <-a2],trivial⟩
    rcases aO.mp hi with rfl | hi
    ·exact hj
    ·exact a1 i hi
  subst j2
  rw [ae]at hlen
  rw [hV]at hpw
  rw [dI]at hout
  subst hout
  have hval: ∀l:List Nat,Vals (l.map fun j=>V.ref (T j)) (l.map fun j=>ak (T j)):=fun l=>by
   induction l with
   | nil=>exact .nil
   | cons a l ih=>exact .cons rfl ih
  refine⟨.ref D,_,I.laid (t':=tk) hk hD (o:= .lst (js.map fun j=>V.ref (T j))) ⟨by rw [ae]; exact ke (by omega),_,c,hval js,hg2⟩,rfl,k D js (I.eI.fresh hD) hlen j1 (fun j hj=> ?_) hpw⟩
  obtain⟨x,hx,e1⟩:=q3 j hj
  obtain⟨j',hj',rfl⟩:=bh.mp (hp.mem_iff.mpr hx)
  exact⟨j',hj',B7 e1⟩
theorem zD{K:Frag}{M:MP}{H:Hp}{val:Nat->Int×Int}{T:Nat->Addr}: ∀(js:List Nat),(∀j∈js,kq K H (T j) (uj (val j)))->cN K M H ((js.map val).map pairD) (js.map fun j=>V.ref (T j))
 | [],_=>rfl
 | j::js,h=>⟨.ref (T j),_,rfl,⟨T j,uj (val j),rfl,h j (.head _),_,_,rfl,rfl,_,_,rfl,rfl,rfl⟩,zD js fun i hi=>h i (.tail _ hi)⟩
theorem eJ.sortedSet{ps:List (Int×Int)}(hc:X.calm=true)(hu:X.A.units+16 < cLine)(hg2:Gl X "sorted")(hm2:X.mg "sorted"=none)(hg3:Gl X "set")(hm3:X.mg "set"=none)(h:mZ X ρ e (.lst (ps.map pairD)))(hl:ps.length<=4)
  (he:au [e] X.env= [(false,eval e X.env)]:=by rfl)(he2:au [.Call (.Name "set" p4) [e] [] p5] X.env= [(false,eval (.Call (.Name "set" p4) [e] [] p5) X.env)]:=by rfl):
  eJ X ρ (.Call (.Name "sorted" p2) [.Call (.Name "set" p4) [e] [] p5] [] p3) ((pk ps).map pairD):=fun M0 H0 γ α σ H Q R k=>
 (iy (xU hc) hg2 hm2 (by decide +kernel) (eu (km (DP hc hu) hg3 hm3 (by decide +kernel) (eu iu gZ he) (by decide) (by decide) he) gZ he2) (by decide) (by decide) he2).to
  (h M0 H0 γ α σ H _ R fun v H1 s1 d1=>by
   obtain⟨q,xs,e1,sq,dn⟩:=id d1
   subst e1
   have get: ∀j,j < ps.length->ps[j]? =some (ps.getD j (0,0)):=fun j h=>by rw [aB,ah h]; rfl
   refine⟨q,_,ps,rfl,d1,hl,fun l T hl1 hT=>⟨l,_,_,T,rfl,bO,fun j hj=>p7.tup (qF (M:=L_) (bG hl1)) (hT j _ (get j hj)),fun l2 js hl2 hlen hin hcov hpw=> ?_⟩⟩
   have eq:js.map (fun j=>ps.getD j (0,0))=pk ps:=by
    refine Dz (fun x=> ?_) (by rw [hV]; exact hpw)
    constructor
    ·intro hx
     obtain⟨j,hj,rfl⟩:=bh.mp hx
     exact bg (get j (hin j hj))
    ·intro hx
     obtain⟨j,hj,e1⟩:=fY hx
     obtain⟨j',hj',e2⟩:=hcov j hj
     refine bh.mpr ⟨j',hj', ?_⟩
     rw [e2,aB,ah hj]
     exact e1
   refine k l2 _ _ _ (s1.trans (bG hl1)) hl2 (bG hl2) bO ?_
   rw [<-eq]
   exact zD js fun j hj=>p7.tup (qF (M:=L_) (bG hl2)) (p7.tup (qF (M:=L_) (bG hl1)) (hT j _ (get j (hin j hj)))))
theorem aw.sortedSetT{ps:List (Int×Int)}(hc:X.calm=true)(hu:X.A.units+16 < cLine)(hg1:Gl X "tuple")(hm1:X.mg "tuple"=none)(hg2:Gl X "sorted")(hm2:X.mg "sorted"=none)(hg3:Gl X "set")(hm3:X.mg "set"=none)(h:mZ X ρ e (.lst (ps.map pairD)))(hl:ps.length<=4)
  (he:au [e] X.env= [(false,eval e X.env)]:=by rfl)(he2:au [.Call (.Name "set" p4) [e] [] p5] X.env= [(false,eval (.Call (.Name "set" p4) [e] [] p5) X.env)]:=by rfl)
  (he3:au [.Call (.Name "sorted" p2) [.Call (.Name "set" p4) [e] [] p5] [] p3] X.env= [(false,eval (.Call (.Name "sorted" p2) [.Call (.Name "set" p4) [e] [] p5] [] p3) X.env)]:=by rfl):
  aw X ρ (.Call (.Name "tuple" p) [.Call (.Name "sorted" p2) [.Call (.Name "set" p4) [e] [] p5] [] p3] [] pos) (.tup ((pk ps).map pairD)):=aw.tupleL hg1 hm1 (aw.r (eJ.toD (eJ.sortedSet hc hu hg2 hm2 hg3 hm3 h hl he he2))) he3
end
end Z
namespace Z
open PySem PySem.Spec PyProof.Rows
end Z
namespace Z
open PySem PySem.Spec PyProof.Rows L2
theorem uU{scope:Scope}{env:Env}{y1 y2:Str}{c1 c2:Addr}{pre mid post:List (Str×kg)}(hs:scope.names=pre ++ (y1, .free)::(mid ++ (y2, .free)::post))(h1: ∀z∈pre,z.2≠ .free)(h2: ∀z∈mid,z.2≠ .free)(h3: ∀z∈post,z.2≠ .free)(hc1:env.cells.lookup y1=some c1)(hc2:env.cells.lookup y2=some c2):yB scope env=pure [(y2,c2),(y1,c1)]:=by
 have step: ∀(y:Str) (c:Addr) (acc:List (Str×Addr)),env.cells.lookup y=some c->jV env (y, .free) acc=pure (iY ((y,c)::acc)):=fun y c acc hc=>by
  have e:cellOf env y=pure c:=by unfold cellOf; rw [hc]
  unfold jV
  simp only [beq_self_eq_true,if_true,e,vJ]
 have all:forIn scope.names ([]:List (Str×Addr)) (jV env)=pure [(y2,c2),(y1,c1)]:=by
  rw [hs,oP pre _ [] h1,dg,step y1 c1 [] hc1]
  simp only [vJ]
  rw [oP mid _ _ h2,dg,step y2 c2 _ hc2]
  simp only [vJ]
  have:=oP (env:=env) post [] [(y2,c2),(y1,c1)] h3
  rw [bq]at this
  rw [this]
  rfl
 have e3:yB scope env=(forIn scope.names ([]:List (Str×Addr)) (jV env) >>=fun r=>pure r):=rfl
 rw [e3,all]
 rfl
theorem eY.cap2{X:Cx}{scope:Scope}{x y1 y2:Str}{c1 c2:Addr}{j1 j2:Nat}{pre mid post rn:List (Str×kg)}(hs:scope.names=pre ++ (y1, .free)::(mid ++ (y2, .free)::post))(h1: ∀z∈pre,z.2≠ .free)(h2: ∀z∈mid,z.2≠ .free)(h3: ∀z∈post,z.2≠ .free)(hcl1:X.env.cells.lookup y1=some c1)(hcl2:X.env.cells.lookup y2=some c2)(hne:(y1==y2)=false)
  (hc: ∀z∈scope.names,z.2≠ .cell)(hk:scope.kind= .function)(hn: ∀y∈scope.names,y.2= .local->scope.names.lookup y.1=some .local)(ho:scope.names.lookup x=some .local)(hj1:X.N[j1]? =some y1)(hj2:X.N[j2]? =some y2)(hy1:X.env.scope.names.lookup y1=some .cell)(hy2:X.env.scope.names.lookup y2=some .cell)
  (hrel:(qx scope X.env).names=rn)(hrn1:rn.lookup y1=some .cell)(hrn2:rn.lookup y2=some .cell)(hall: ∀z∈rn,(z.2= .cell\/z.2= .free)->z.1=y1\/z.1=y2):eY X [x,y1,y2] [j1,j2] scope x [(y2,c2),(y1,c1)] where
 Di:=uU hs h1 h2 h3 hcl1 hcl2
 cell:=hc
 kind:=hk
 names:=hn
 own:=ho
 hN:=⟨[y1,y2],rfl,rfl,fun i z k e1 e2=>by
  match i,e1,e2 with
  | 0,e1,e2=>
   have e1':y1=z:=by simpa using e1
   have e2':j1=k:=by simpa using e2
   subst e1' e2'
   refine⟨hj1,hy1,by rw [hrel]; exact hrn1,fun c' e=> ?_⟩
   rw [hcl1]at e
   cases e
   rw [iG,hne]
   simp
  | 1,e1,e2=>
   have e1':y2=z:=by simpa using e1
   have e2':j2=k:=by simpa using e2
   subst e1' e2'
   refine⟨hj2,hy2,by rw [hrel]; exact hrn2,fun c' e=> ?_⟩
   rw [hcl2]at e
   cases e
   simp
  | i+2,e1,_=>simp at e1⟩
 sub:=fun z d h=>by
  rw [iG]at h
  cases hb:z==y2 with
  | true=>
   rw [hb]at h
   cases h
   rw [beq_iff_eq.mp hb]
   exact hcl2
  | false=>
   rw [hb]at h
   dsimp only at h
   rw [iG]at h
   cases hb1:z==y1 with
   | true=>
    rw [hb1]at h
    cases h
    rw [beq_iff_eq.mp hb1]
    exact hcl1
   | false=>rw [hb1]at h; simp at h
 has:=fun z h=>by
  rw [hrel]at h
  have:z=y1\/z=y2:=by
   rcases h with h | h
   ·exact hall _ (cQ h) (.inl rfl)
   ·exact hall _ (cQ h) (.inr rfl)
  rcases this with rfl | rfl
  ·exact⟨c1,by rw [iG,hne]; simp⟩
  ·exact⟨c2,by simp⟩
theorem Ni{ρ:fm}{j1 j2:Nat}{d1 d2:D}(h1:ρ[j1]? =some (.im d1))(h2:ρ[j2]? =some (.im d2)):zx ρ [j1,j2] [d1,d2]:=⟨rfl,fun k i d e1 e2=>by
 match k,e1,e2 with
 | 0,e1,e2=>
  have e1':j1=i:=by simpa using e1
  have e2':d1=d:=by simpa using e2
  subst e1' e2'
  exact h1
 | 1,e1,e2=>
  have e1':j2=i:=by simpa using e1
  have e2':d2=d:=by simpa using e2
  subst e1' e2'
  exact h2
 | k+2,e1,_=>simp at e1⟩
end Z
namespace K
open PySem L2 Z
def FN:List Str:= ["stack_count","most_crates","crane_strength","banned_pairs"]
abbrev fk:=List (Int×Int)
def vU(f:eG)(qs:fk):List D:= [.int f.st, .int f.ht, .int f.lf, .tup (qs.map pD)]
def i7(C:Addr)(f:eG)(qs:fk):D:= .ins C FN (vU f qs)
structure Ls(K:Frag)(C:Addr):Prop where
 cl:A9 K C
 n1:jt K C "stack_count"
 n2:jt K C "most_crates"
 n3:jt K C "crane_strength"
 n4:jt K C "banned_pairs"
structure vV(f:eG):Prop where
 st:2<=f.st/\f.st<=4
 ht:1<=f.ht/\f.ht<=6
 lf:1<=f.lf/\f.lf<=3
 mw:f.jx.length<=4
 ok:f.jx.all qC=true
section
variable {P:aq}{w:World}{K:Frag}{mg:Str->Option Value}{base:Heap}{CX:gF}{C:Addr}
abbrev Ci(P:aq)(w:World)(K:Frag)(mg:Str->Option Value)(base:Heap)(CX:gF)(C:Addr):Prop:=
 MA P w K mg base CX 1 C "stacks" (fun i:eG×fk=> [i7 C i.1 i.2]) (fun _=>True) (fun i=> .ok (.int i.1.st))
abbrev B8(P:aq)(w:World)(K:Frag)(mg:Str->Option Value)(base:Heap)(CX:gF)(C:Addr):Prop:=
 MA P w K mg base CX 1 C "height" (fun i:eG×fk=> [i7 C i.1 i.2]) (fun _=>True) (fun i=> .ok (.int i.1.ht))
abbrev KQ(P:aq)(w:World)(K:Frag)(mg:Str->Option Value)(base:Heap)(CX:gF)(C:Addr):Prop:=
 MA P w K mg base CX 1 C "lift" (fun i:eG×fk=> [i7 C i.1 i.2]) (fun _=>True) (fun i=> .ok (.int i.1.lf))
abbrev KN(P:aq)(w:World)(K:Frag)(mg:Str->Option Value)(base:Heap)(CX:gF)(C:Addr):Prop:=
 MA P w K mg base CX 1 C "bans" (fun i:eG×fk=> [i7 C i.1 i.2]) (fun _=>True) (fun i=> .ok (.lst (i.2.map pD)))
theorem OI:bV ["self"] ["self"] (aE (tj 1)):=⟨rfl,rfl,rfl,by decide +kernel,rfl,by decide +kernel,by decide +kernel⟩
theorem O9:bV ["self"] ["self"] (aE (tj 2)):=⟨rfl,rfl,rfl,by decide +kernel,rfl,by decide +kernel,by decide +kernel⟩
theorem O3:bV ["self"] ["self"] (aE (tj 3)):=⟨rfl,rfl,rfl,by decide +kernel,rfl,by decide +kernel,by decide +kernel⟩
theorem O7:bV ["self"] ["self"] (aE (tj 4)):=⟨rfl,rfl,rfl,by decide +kernel,rfl,by decide +kernel,by decide +kernel⟩
theorem OY(f:eG)(qs:fk):nA FN (vU f qs) "stack_count"=some (.int f.st):=rfl
theorem Pd(f:eG)(qs:fk):nA FN (vU f qs) "most_crates"=some (.int f.ht):=by
 unfold FN vU
 rw [nA,if_neg (by decide +kernel),nA,if_pos (by decide +kernel)]
theorem Oy(f:eG)(qs:fk):nA FN (vU f qs) "crane_strength"=some (.int f.lf):=by
 unfold FN vU
 rw [nA,if_neg (by decide +kernel),nA,if_neg (by decide +kernel),nA,if_pos (by decide +kernel)]
theorem OT(f:eG)(qs:fk):nA FN (vU f qs) "banned_pairs"=some (.tup (qs.map pD)):=by
 unfold FN vU
 rw [nA,if_neg (by decide +kernel),nA,if_neg (by decide +kernel),nA,if_neg (by decide +kernel),nA,if_pos (by decide +kernel)]
theorem DS{f:Addr}{fd:bj}(T:Ls K C)(F:lu K "stacks" "Floor.stacks" (tj 1) f fd)(hm:Meth K C "stacks" f)(hb:Binds K fd ["self"] []):Ci P w K mg base CX C:=
 xD F OI hm hb (fun i=>rfl) fun cdv A outer s H E i M0 hp hr=>⟨_,rfl,WS.one (W1.ret (aw.fld T.cl T.n1 (nm 0 rfl rfl) (OY i.1 i.2)) rfl)⟩
theorem DM{f:Addr}{fd:bj}(T:Ls K C)(F:lu K "height" "Floor.height" (tj 2) f fd)(hm:Meth K C "height" f)(hb:Binds K fd ["self"] []):B8 P w K mg base CX C:=
 xD F O9 hm hb (fun i=>rfl) fun cdv A outer s H E i M0 hp hr=>⟨_,rfl,WS.one (W1.ret (aw.fld T.cl T.n2 (nm 0 rfl rfl) (Pd i.1 i.2)) rfl)⟩
theorem Jt{f:Addr}{fd:bj}(T:Ls K C)(F:lu K "lift" "Floor.lift" (tj 3) f fd)(hm:Meth K C "lift" f)(hb:Binds K fd ["self"] []):KQ P w K mg base CX C:=
 xD F O3 hm hb (fun i=>rfl) fun cdv A outer s H E i M0 hp hr=>⟨_,rfl,WS.one (W1.ret (aw.fld T.cl T.n3 (nm 0 rfl rfl) (Oy i.1 i.2)) rfl)⟩
theorem JT{f:Addr}{fd:bj}(B:Bm mg)(T:Ls K C)(F:lu K "bans" "Floor.bans" (tj 4) f fd)(hm:Meth K C "bans" f)(hb:Binds K fd ["self"] []):KN P w K mg base CX C:=
 xD F O7 hm hb (fun i=>rfl) fun cdv A outer s H E i M0 hp hr=>⟨_,rfl,WS.one (W1.ret (eJ.toD (eJ.listT rfl B.list (aw.fld T.cl T.n4 (nm 0 rfl rfl) (OT i.1 i.2)))) rfl)⟩
theorem Mt:bV ["self","stacks","height","lift","bans"] ["self","stacks","height","lift","bans"] (aE sj):=⟨rfl,rfl,rfl,by decide +kernel,rfl,by decide +kernel,by decide +kernel⟩
abbrev GH(P:aq)(w:World)(K:Frag)(mg:Str->Option Value)(base:Heap)(CX:gF)(C:Addr):Prop:=
 OV P w K mg base CX 5 "Floor" C FN (fun f:eG=> [.int f.st, .int f.ht, .int f.lf, .lst (f.jx.map pD)]) vV (fun f ds=> ∃qs:fk,ds=vU f qs/\qs=pk f.jx)
theorem HX{K:Frag}{M0:MP}{H H1 H':Hp}{γ:List (D×V)}{α:Nat->Addr}{ρ:fm}{σ:St}(r:Rep K M0 H γ α ρ σ H')(hM: ∀a,M0 a->H1 a≠none)(s:bT H1 H)(nomu: ∀(i:Nat) (ds:List D),ρ[i]? ≠some (.mu ds)):Rep K M0 H1 γ α ρ σ H':=
 ⟨s.trans r.same,hM,r.inj,r.im,fun i ds e=>absurd e (nomu i ds),r.gh,r.len⟩
theorem M3(a b c d:V):gE "banned_pairs" d (gE "crane_strength" c (gE "most_crates" b (gE "stack_count" a [])))=([("stack_count",a),("most_crates",b),("crane_strength",c),("banned_pairs",d)]:List (Str×V)):=by
 have n1:("stack_count":Str)≠"most_crates":=by decide +kernel
 have n2:("stack_count":Str)≠"crane_strength":=by decide +kernel
 have n3:("most_crates":Str)≠"crane_strength":=by decide +kernel
 have n4:("stack_count":Str)≠"banned_pairs":=by decide +kernel
 have n5:("most_crates":Str)≠"banned_pairs":=by decide +kernel
 have n6:("crane_strength":Str)≠"banned_pairs":=by decide +kernel
 simp only [gE,n1,n2,n3,n4,n5,n6,if_false]
theorem CA(n:Nat)(ps:fk): ∀d∈ps.map pD,D.noI (n+1) d:=fun d hd=>by
 obtain⟨p,_,rfl⟩:=bh.mp hd
 intro e he
 have:e= .int p.1\/e= .int p.2:=by simpa [pD]using he
 rcases this with rfl | rfl <;> (cases n <;> exact c_)
theorem JA{f:Addr}{fd:bj}(nx:NX CX)(B:Bm mg)(T:Ls K C)(G1:oJ P w K mg base CX)(G2:tX P w K mg base CX)(F:lu K "__init__" "Floor.__init__" sj f fd)(M:Mk K C f)(hm:mg "Floor"=some (.ref C))(hb:Binds K fd ["self","stacks","height","lift","bans"] []):GH P w K mg base CX C:=by
 refine⟨f,fd,_, ?_,M,hm,hb⟩
 obtain⟨oc,od,kV,doc,pm,an,cdv,ct,osl,rfl,lk,hcd⟩:=F.ex
 refine Ae lk hcd Mt (fun vs H Q E ⟨i,M0,x,dx,us,e,_,_,h,_⟩=>by subst e; rw [aL,h.len]; rfl) fun A outer s H vs Q E hr hsp=> ?_
 obtain⟨fl,M0,x,dx,us,rfl,hx,hM,hd,hp,kk⟩:=hsp
 refine⟨oM _ (aP sj),(f_ (X:=(lC CX P w K mg base ["self","stacks","height","lift","bans"] "Floor.__init__" (aE sj) f cdv A outer s H E).nox)).nox, ?_⟩
 obtain⟨⟨s2,s4⟩,⟨h1,h6⟩,⟨l1,l3⟩,hfew,eI⟩:=hp
 have hM': ∀a,M0 a->H a≠none:=fun a ha z=>hM a ha (fy.free z)
 have R1:Rep K M0 H [] (fun _=>0) (sC ["self","stacks","height","lift","bans"] (.ins C [] []:: [.int fl.st, .int fl.ht, .int fl.lf, .lst (fl.jx.map pD)])) (L2.start ["self","stacks","height","lift","bans"] (.ref x::us)) H:=
  rep0 hM' ⟨_,_,rfl,⟨x,dx, [],rfl,hx,rfl,rfl⟩,hd⟩
 have R2:=HX (R1.drop1 (i:=0)) hM fy (fun i ds e=>by
  have:i < 5:=(aI.mp e).1
  match i,this with
  | 0,_=>cases e
  | 1,_=>cases e
  | 2,_=>cases e
  | 3,_=>cases e
  | 4,_=>cases e)
 have hσ:(L2.start ["self","stacks","height","lift","bans"] (.ref x::us))[0]? =some (some (.ref x)):=rfl
 generalize L2.start ["self","stacks","height","lift","bans"] (.ref x::us)=σ at R2 hσ ⊢
 change Rep K M0 (e7 H x) [] (fun _=>0) [.un, .im (.int fl.st), .im (.int fl.ht), .im (.int fl.lf), .im (.lst (fl.jx.map pD))] σ H at R2
 have hi: ∀sl∈([.un, .im (.int fl.st), .im (.int fl.ht), .im (.int fl.lf), .im (.lst (fl.jx.map pD))]:fm),sl= .un\/ ∃d,sl= .im d/\D.noI 9 d:=fun sl hs=>by
  have:sl= .un\/sl= .im (.int fl.st)\/sl= .im (.int fl.ht)\/sl= .im (.int fl.lf)\/sl= .im (.lst (fl.jx.map pD)):=by simpa using hs
  rcases this with rfl | rfl | rfl | rfl | rfl
  ·exact .inl rfl
  ·exact .inr ⟨_,rfl,trivial⟩
  ·exact .inr ⟨_,rfl,trivial⟩
  ·exact .inr ⟨_,rfl,trivial⟩
  ·exact .inr ⟨_,rfl,CA 7 _⟩
 refine(dS t_ f_).to (tQ (ρ:= [.un, .im (.int fl.st), .im (.int fl.ht), .im (.int fl.lf), .im (.lst (fl.jx.map pD))]) (cU.to (cU.not (cU.val (aw.call G1 (hr.mono (by decide)) (aX nx) rfl (fl.st,2,4) (aY.cons (nm 1 rfl rfl) (aY.cons (uI B.mw rfl) (aY.cons (uI B.most rfl) aY.nil))) trivial rfl))) (by rw [decide_eq_true s2,decide_eq_true s4]; rfl)) R2 fun H1 t1=> ?_)
 have R3:=R2.next t1
 refine(dS t_ f_).to (tQ (ρ:= [.un, .im (.int fl.st), .im (.int fl.ht), .im (.int fl.lf), .im (.lst (fl.jx.map pD))]) (cU.to (cU.not (cU.val (aw.call G1 (hr.mono (by decide)) (aX nx) rfl (fl.ht,1,6) (aY.cons (nm 2 rfl rfl) (aY.cons (uI B.low rfl) (aY.cons (uI B.great rfl) aY.nil))) trivial rfl))) (by rw [decide_eq_true h1,decide_eq_true h6]; rfl)) R3 fun H2 t2=> ?_)
 have R4:=R3.next t2
 refine(dS t_ f_).to (tQ (ρ:= [.un, .im (.int fl.st), .im (.int fl.ht), .im (.int fl.lf), .im (.lst (fl.jx.map pD))]) (cU.to (cU.not (cU.val (aw.call G1 (hr.mono (by decide)) (aX nx) rfl (fl.lf,1,3) (aY.cons (nm 3 rfl rfl) (aY.cons (uI B.weak rfl) (aY.cons (uI B.Fu rfl) aY.nil))) trivial rfl))) (by rw [decide_eq_true l1,decide_eq_true l3]; rfl)) R4 fun H3 t3=> ?_)
 have R5:=R4.next t3
 refine(dS t_ f_).to (tQ (ρ:= [.un, .im (.int fl.st), .im (.int fl.ht), .im (.int fl.lf), .im (.lst (fl.jx.map pD))]) (cU.to (cU.not (cU.val (aw.call G2 hr (aX nx) rfl fl.jx (aY.cons (nm 4 rfl rfl) aY.nil) (show fl.jx.length<=100 by omega) rfl))) (by rw [eI,decide_eq_true (show fl.jx.length<=20 by omega)]; rfl)) R5 fun H4 t4=> ?_)
 have R6:=R5.next t4
 have x4:H4 x=some (.ins C dx []):=t4 _ _ (t3 _ _ (t2 _ _ (t1 _ _ hx)))
 refine(dS t_ f_).to (AH 0 rfl (.inl rfl) hσ T.cl T.n1 (by decide) (nm 1 rfl rfl) R6 x4 fun v1 H5 t5 d5=> ?_)
 cases (show v1=V.int fl.st from d5)
 have x5:=t5 _ _ x4
 have R7:=(R6.next t5).ins (fs':=gE "stack_count" (V.int fl.st) []) qB x5 hi
 refine(dS t_ f_).to (AH 0 rfl (.inl rfl) hσ T.cl T.n2 (by show 1 < 1000; decide) (nm 2 rfl rfl) R7 bO fun v2 H6 t6 d6=> ?_)
 cases (show v2=V.int fl.ht from d6)
 have x6:=t6 _ _ bO
 have R8:=(R7.next t6).ins (fs':=gE "most_crates" (V.int fl.ht) (gE "stack_count" (V.int fl.st) [])) qB x6 hi
 refine(dS t_ f_).to (AH 0 rfl (.inl rfl) hσ T.cl T.n3 (jh (jP _ _ _) (by show 2 < 1000; decide)) (nm 3 rfl rfl) R8 bO fun v3 H7 t7 d7=> ?_)
 cases (show v3=V.int fl.lf from d7)
 have x7:=t7 _ _ bO
 have R9:=(R8.next t7).ins (fs':=gE "crane_strength" (V.int fl.lf) (gE "most_crates" (V.int fl.ht) (gE "stack_count" (V.int fl.st) []))) qB x7 hi
 refine(tJ t_).to (Ka 0 rfl (.inl rfl) hσ T.cl T.n4 (jh (jP _ _ _) (jh (Nat.succ_le_succ (jP _ _ _)) (by show 3 < 1000; decide))) (aw.toP (R:=fun d=> ∃qs:fk,d= .tup (qs.map pairD)/\qs=pk fl.jx) (aw.sortedSetT (ps:=fl.jx) rfl (jh (Nat.add_le_add_left (by decide:16<=16 * 4+200) _) (by have:=hr.un; rw [nK]at this; exact this)) rfl B.tuple rfl B.sorted rfl B.set (aw.r (nm 4 rfl rfl)) hfew) ⟨_,rfl,rfl⟩) R9 bO fun d4 v4 H8 hd4 t8 d8=> ?_)
 obtain⟨qs,rfl,hq⟩:=hd4
 have x8:=t8 _ _ bO
 have R10:=(R9.next t8).ins (fs':=gE "banned_pairs" v4 (gE "crane_strength" (V.int fl.lf) (gE "most_crates" (V.int fl.ht) (gE "stack_count" (V.int fl.st) [])))) qB x8 hi
 have d9:Dn K M0 (upd H8 x (.ins C dx (gE "banned_pairs" v4 (gE "crane_strength" (V.int fl.lf) (gE "most_crates" (V.int fl.ht) (gE "stack_count" (V.int fl.st) [])))))) (.tup (qs.map pD)) v4:=Dn.noI (Ga x8) 9 (CA 7 qs) (d8.less fun a ha=> .inl ha)
 refine kk (vU fl qs) [("stack_count", .int fl.st),("most_crates", .int fl.ht),("crane_strength", .int fl.lf),("banned_pairs",v4)] _ ⟨qs,rfl,hq⟩ R10.same (by rw [bO,M3]) rfl ⟨_,_,rfl,rfl,_,_,rfl,rfl,_,_,rfl,rfl,_,_,rfl,d9,rfl⟩
end
theorem IZ(n d:Nat):HT.iH n d (some 1)=min 1 n:=by
 unfold HT.iH
 simp
theorem Jy(ds:List D):cutD ds (some 1) none=ds.drop 1:=by
 unfold cutD
 rw [IZ]
 cases ds with
 | nil=>rfl
 | cons a l=>
  have e:min 1 (a::l).length=1:=by simp
  rw [e]
  show((a::l).drop 1).take ((a::l).length - 1)=_
  rw [dY (by simp)]
def KJ(f:eG)(r:List Int):Bool:= !((r.drop 1).zip r).any fun p=>decide (p∈f.jx)
theorem GD(f:eG)(r:List Int):jM f r=(decide ((r.length:Int)<=f.ht)&&(r.all j_&&KJ f r)):=by
 unfold jM
 congr 1
 rw [o_]
 simp only [dQ,gw,bJ,KJ,hJ,List.any_eq_false,decide_eq_true_eq]
 have gd: ∀k (h:k < r.length),r.getD k 0=r[k]:=fun k h=>by rw [aB,ah h]; rfl
 constructor
 ·intro h
  refine⟨fun x hx=> ?_,fun p hp hm=> ?_⟩
  ·obtain⟨k,hk,rfl⟩:=fY hx
   have:=h k hk
   unfold xy at this
   rw [gd k hk,bJ]at this
   exact this.1
  ·obtain⟨k,hk,e⟩:=fY hp
   rw [cy,bI]at hk
   have hk1:k+1 < r.length:=by omega
   have h1:=h (k+1) hk1
   unfold xy at h1
   rw [gd _ hk1,show k+1 - 1=k from rfl,gd k (by omega)]at h1
   rw [gC,d_]at e
   have e':(r[k+1],r[k])=p:=by
    rw [<-e]
    congr 2
    omega
   rw [e']at h1
   simp [hm]at h1
 ·rintro⟨h1,h2⟩ k hk
  unfold xy
  rw [gd k hk,bJ]
  refine⟨h1 _ (a_ hk), ?_⟩
  rw [hJ,jS]
  by_cases h0:0 < k
  ·refine .inr (decide_eq_false ?_)
   rw [gd (k - 1) (by omega)]
   refine h2 _ ?_
   have hl:k - 1 < ((r.drop 1).zip r).length:=by rw [cy,bI]; omega
   have e:((r.drop 1).zip r)[k - 1]=(r[k],r[k - 1]):=by
    rw [gC,d_]
    congr 2
    omega
   rw [<-e]
   exact a_ hl
  ·exact .inl (decide_eq_false h0)
structure gD(f:eG)(qs:fk):Prop where
 ok:vV f
 mw:qs.length<=4
 mem: ∀q,q∈qs↔q∈f.jx
section
variable {P:aq}{w:World}{K:Frag}{mg:Str->Option Value}{base:Heap}{CX:gF}{C:Addr}
structure Fl(P:aq)(w:World)(K:Frag)(mg:Str->Option Value)(base:Heap)(CX:gF)(C:Addr):Prop where
 t:Ls K C
 st:Ci P w K mg base CX C
 ht:B8 P w K mg base CX C
 lf:KQ P w K mg base CX C
 bs:KN P w K mg base CX C
theorem r9:bV ["floor","stack","bans"] ["floor","stack"] (aE iI):=⟨rfl,rfl,rfl,by decide +kernel,rfl,by decide +kernel,by decide +kernel⟩
abbrev pS(P:aq)(w:World)(K:Frag)(mg:Str->Option Value)(base:Heap)(CX:gF)(C:Addr):Prop:=
 nq P w K mg base CX 3 "is_good_stack" (fun i:eG×fk×List Int=> [i7 C i.1 i.2.1,yY true (i.2.2.map .int)]) (fun i=>gD i.1 i.2.1/\i.2.2.length<=1000) (fun i=> .ok (.bl (jM i.1 i.2.2)))
theorem C9(as bs:List Int):Gw (as.map .int) (bs.map .int)=(as.zip bs).map pD:=by
 unfold Gw
 rw [List.zip_map,dI]
 rfl
theorem xK{f:Addr}{fd:bj}(nx:NX CX)(B:Bm mg)(L:Fl P w K mg base CX C)(G:xB P w K mg base CX)(F:lu K "is_good_stack" "is_good_stack" iI f fd)(hm:mg "is_good_stack"=some (.ref f))(hb:Binds K fd ["floor","stack"] []):pS P w K mg base CX C:=by
 refine fD F r9 hm hb (fun i=>rfl) fun cdv A outer s H E i M0 hp hr=>⟨_,rfl, ?_⟩
 obtain⟨fl,qs,r⟩:=i
 obtain⟨hS,hlen⟩:gD fl qs/\r.length<=1000:=hp
 have px:=r9.nd
 have hr1:=hr.mono (show 1<=2 by decide)
 change WS _ M0 H (aP iI) [.im (i7 C fl qs), .im (.tup (r.map .int)), .un] _
 rw [GD]
 refine WS.cons (W1.ite (ju.t (ju.or (cU.not (cU.val (aw.s_ rfl B.s_ rfl B.tuple (by decide +kernel) (.inr (.inr (.inr (.inl rfl)))) (aw.r (nm 1 rfl rfl)) rfl))) fun _=>ju.or1 (cU.cI .gt (aw.lenT rfl B.len (nm 1 rfl rfl)) (aw.meth0 L.t.cl L.ht hr1 (aX nx) (fl,qs) (nm 0 rfl rfl) rfl trivial rfl)))) (fun h=> ?_) fun h=>WS.nil ?_)
 ·rw [qE,ae]at h
  have h':fl.ht < (r.length:Int):=by simpa using h
  exact WS.one (W1.ret aw.bl (by dsimp only; rw [decide_eq_false (by omega)]; rfl))
 rw [qE,ae]at h
 have hle:(r.length:Int)<=fl.ht:=by
  have: ¬fl.ht < (r.length:Int):=by simpa using h
  omega
 rw [decide_eq_true hle,iU]
 refine WS.cons (W1.ite (cU.not (cU.val (aw.all (bs:=r.map j_) rfl rfl B.all (aw.r (eJ.toD (eJ.comp (ds:=r.map .int) (es:=(r.map j_).map D.bl) (cs:= []) (eY.closed (by decide +kernel) (by decide +kernel) rfl (by decide +kernel) rfl) rfl (by decide +kernel) (lE.tup (nm 1 rfl rfl)) xq (by simp) (by rw [ae]; omega) ?_)))))) (fun h=> ?_) fun h=>WS.nil ?_)
 ·intro C s₀ H₀ fp pins i d e h1 h2
  rw [aA]at h1
  rw [aA,aA]at h2
  cases ei:r[i]? with
  | none=>rw [ei]at h1; cases h1
  | some v=>
   rw [ei]at h1 h2
   cases h1
   cases h2
   exact aw.call G hr (aX nx) rfl v (aY.cons (nm 0 rfl rfl) aY.nil) trivial rfl
 ·have h':r.all j_=false:=by simpa using h
  exact WS.one (W1.ret aw.bl (by rw [h']; rfl))
 have h':r.all j_=true:=by rw [List.all_map]at h; simpa using h
 rw [h',iU]
 refine WS.cons (W1.set (i:=2) px rfl (.inr rfl) (gV rfl) (aw.meth0 L.t.cl L.bs hr1 (aX nx) (fl,qs) (nm 0 rfl rfl) rfl trivial rfl) ?_)
 change WS _ M0 H _ [.im (i7 C fl qs), .im (.tup (r.map .int)), .im (.lst (qs.map pD))] _
 refine WS.one (W1.ret (aw.to (aw.not (aw.any (bs:=((r.drop 1).zip r).map fun p=>decide (p∈fl.jx)) rfl rfl B.any (aw.r (eJ.toD (eJ.comp (ds:=((r.drop 1).zip r).map pD) (es:=(((r.drop 1).zip r).map fun p=>decide (p∈fl.jx)).map D.bl) (cs:= [.lst (qs.map pD)]) (N':= ["pair","bans"]) (js:= [2])
  (eY.cap1 (pre:= [(".0", .local),("pair", .local)]) (post:= []) (rn:= [(".0", .local),("pair", .local),("bans", .cell)]) rfl (by decide +kernel) (by decide +kernel) rfl (by decide +kernel) rfl (by decide +kernel) rfl rfl rfl rfl rfl (by decide +kernel)) rfl (by decide +kernel)
  (lE.to (lE.zipT rfl B.zip (aw.cutT (nm 1 rfl rfl) (Ay.some aw.int) Ay.none) (nm 1 rfl rfl)) (by rw [Jy, <-List.map_drop,C9])) (KL rfl) (by simp) (by rw [ae,cy]; omega) ?_))))) (by rw [List.any_map]; rfl)) rfl)
 intro C s₀ H₀ fp pins i d e h1 h2
 rw [aA]at h1
 rw [aA,aA]at h2
 cases ei:((r.drop 1).zip r)[i]? with
 | none=>rw [ei]at h1; cases h1
 | some v=>
  rw [ei]at h1 h2
  cases h1
  cases h2
  refine aw.to (aw.inL (uS hr) (aw.r (nm 0 rfl rfl)) (aw.r (nm 1 rfl rfl)) (xH 59 v) zi) ?_
  rw [rE]
  congr 1
  exact decide_eq_decide.mpr (hS.mem v)
end
abbrev Rows:=List (List Int)
abbrev pF:=Int×Int×Int
def tD(t:pF):D:= .tup [.int t.1, .int t.2.1, .int t.2.2]
def sF(f:eG)(v:Int):Bool:=decide (0<=v)&&decide (v<=f.st - 1)
def rowAt(rows:Rows)(v:Int):List Int:=rows.getD v.toNat []
def least(a b:Int):Int:=if b < a then b else a
def pE(f:eG)(rows:Rows)(t:pF):Bool:=(sF f t.1&&(sF f t.2.1&& !decide (t.1=t.2.1)))&&(decide (1<=t.2.2)&&decide (t.2.2<=least f.lf (rowAt rows t.1).length))
def mv(rows:Rows)(t:pF):Rows:=
 (rows.set t.1.toNat ((rowAt rows t.1).take ((rowAt rows t.1).length - t.2.2.toNat))).set t.2.1.toNat (rowAt rows t.2.1 ++ (rowAt rows t.1).drop ((rowAt rows t.1).length - t.2.2.toNat))
def isLet(f:eG)(rows:Rows)(t:pF):Bool:=pE f rows t&&good f (mv rows t)
structure KY(f:eG)(rows:Rows)(t:pF):Prop where
 a0:0<=t.1
 a1:t.1 < f.st
 b0:0<=t.2.1
 b1:t.2.1 < f.st
 ne:t.1≠t.2.1
 n1:1<=t.2.2
 nl:t.2.2<=f.lf
 nr:t.2.2<=(rowAt rows t.1).length
theorem oS{f:eG}{rows:Rows}{t:pF}:pE f rows t=true↔KY f rows t:=by
 unfold pE sF least
 simp only [bJ,decide_eq_true_eq,hJ,decide_eq_false_iff_not]
 constructor
 ·rintro⟨⟨⟨h1,h2⟩,⟨h3,h4⟩,h5⟩,h6,h7⟩
  split at h7
  ·exact⟨h1,by omega,h3,by omega,h5,h6,by omega,h7⟩
  ·exact⟨h1,by omega,h3,by omega,h5,h6,h7,by omega⟩
 ·rintro⟨h1,h2,h3,h4,h5,h6,h7,h8⟩
  refine⟨⟨⟨h1,by omega⟩,⟨h3,by omega⟩,h5⟩,h6, ?_⟩
  split <;> omega
theorem ow: ∀(rows:Rows) (i:Nat) (x:List Int),i < rows.length->(rows.set i x).flatten.Perm (x ++ (rows.set i []).flatten)
 | [],i,x,h=>absurd h (kO _)
 | r::rows,0,x,h=>by simp
 | r::rows,i+1,x,h=>by
  have ih:=ow rows i x (by simpa using h)
  rw [IM,IM,cJ,cJ]
  refine(ih.append_left r).trans ?_
  rw [<-aV, <-aV]
  exact cT.append_right _
theorem kn{rows:Rows}{v:Int}(h0:0<=v)(h:v < rows.length):rows[v.toNat]? =some (rowAt rows v):=by
 unfold rowAt
 have:v.toNat < rows.length:=by omega
 rw [aB,ah this]
 rfl
theorem qQ{rows:Rows}{i:Nat}{r:List Int}(h:rows[i]? =some r):rows.set i r=rows:=by
 apply eV
 intro j
 rw [fM]
 split
 ·rename_i e
  subst e
  have:i < rows.length:=(aI.mp h).1
  rw [if_pos this,h]
 ·rfl
theorem HI(rows:Rows)(t:pF):(mv rows t).length=rows.length:=by unfold mv; rw [bL,bL]
theorem B6{f:eG}{rows:Rows}{t:pF}(hl:(rows.length:Int)=f.st)(h:KY f rows t):(mv rows t).flatten.Perm rows.flatten:=by
 obtain⟨a0,a1,b0,b1,ne,n1,nl,nr⟩:=h
 have ha:t.1.toNat < rows.length:=by omega
 have hb:t.2.1.toNat < rows.length:=by omega
 have hne:t.1.toNat≠t.2.1.toNat:=by omega
 have ea:=kn a0 (by omega:t.1 < rows.length)
 have eb:=kn b0 (by omega:t.2.1 < rows.length)
 unfold mv
 generalize rowAt rows t.1=ra at *
 generalize rowAt rows t.2.1=rb at *
 generalize (ra.length - t.2.2.toNat)=k
 generalize t.1.toNat=i at *
 generalize t.2.1.toNat=j at *
 have p1:=ow (rows.set i (ra.take k)) j (rb ++ ra.drop k) (by rw [bL]; exact hb)
 have p2:=ow (rows.set j []) i (ra.take k) (by rw [bL]; exact ha)
 rw [List.set_comm (ra.take k) [] hne]at p1
 have q1:=ow rows i ra ha
 rw [qQ ea]at q1
 have ejb:(rows.set i [])[j]? =some rb:=by rw [EV hne]; exact eb
 have q2:=ow (rows.set i []) j rb (by rw [bL]; exact hb)
 rw [qQ ejb,List.set_comm _ _ hne]at q2
 refine p1.trans (((p2.append_left (rb ++ ra.drop k))).trans ((q1.trans (q2.append_left ra)).trans ?_).symm)
 generalize ((rows.set j []).set i []).flatten=rest
 have e:ra=ra.take k ++ ra.drop k:=(bb k ra).symm
 rw [<-aV, <-aV]
 refine List.Perm.append_right _ ?_
 refine cT.trans ?_
 rw [aV]
 refine eK rb ?_
 refine gU (List.Perm.of_eq e) cT
theorem BZ(n d:Nat)(k:Nat)(h:k<=n):HT.iH n d (some (k:Int))=k:=by
 unfold HT.iH
 simp
 rw [if_neg (by omega)]
 omega
theorem L4{ds:List D}{k:Nat}(h:k<=ds.length):cutD ds none (some (k:Int))=ds.take k:=by
 unfold cutD
 rw [BZ _ _ _ h]
 show(ds.drop 0).take (k - 0)=_
 rw [lY,BJ]
theorem FP{ds:List D}{k:Nat}(h:k<=ds.length):cutD ds (some (k:Int)) none=ds.drop k:=by
 unfold cutD
 rw [BZ _ _ _ h]
 show(ds.drop k).take (ds.length - k)=_
 rw [dY (by rw [bI]; exact ay _)]
theorem O_{X:Cx}{ρ:fm}{a b:Expr}{p pos:Pos}{i j:Int}(hc:X.calm=true)(hg:Gl X "min")(hm:X.mg "min"=none)(ha:aw X ρ a (.int i))(hb:aw X ρ b (.int j))
  (he:au [a,b] X.env=(false,eval a X.env)::au [b] X.env:=by rfl)(he2:au [b] X.env= [(false,eval b X.env)]:=by rfl)(hpl:(eQ pos (au [b] X.env)).any (·.1)=false:=by rfl):aw X ρ (.Call (.Name "min" p) [a,b] [] pos) (.int (if j < i then j else i)):=
 aw.min hc hg hm (by decide +kernel) ha hb he he2 hpl
section
variable {P:aq}{w:World}{K:Frag}{mg:Str->Option Value}{base:Heap}{CX:gF}{C:Addr}
theorem Aa:bV ["floor","standing","crates","stack"] ["floor","standing"] (aE nz):=⟨rfl,rfl,rfl,by decide +kernel,rfl,by decide +kernel,by decide +kernel⟩
structure Small(rows:Rows):Prop where
 fl:rows.flatten.length<=1000
 n:rows.length<=1000
abbrev tm(P:aq)(w:World)(K:Frag)(mg:Str->Option Value)(base:Heap)(CX:gF)(C:Addr):Prop:=
 nq P w K mg base CX 4 "is_good" (fun i:eG×fk×Rows=> [i7 C i.1 i.2.1, .tup (bQ true i.2.2)]) (fun i=>gD i.1 i.2.1/\Small i.2.2) (fun i=> .ok (.bl (good i.1 i.2.2)))
theorem DC{f:Addr}{fd:bj}(nx:NX CX)(B:Bm mg)(L:Fl P w K mg base CX C)(G:pS P w K mg base CX C)(F:lu K "is_good" "is_good" nz f fd)(hm:mg "is_good"=some (.ref f))(hb:Binds K fd ["floor","standing"] []):tm P w K mg base CX C:=by
 refine fD F Aa hm hb (fun i=>rfl) fun cdv A outer s H E i M0 hp hr=>⟨_,rfl, ?_⟩
 obtain⟨fl,qs,rows⟩:=i
 obtain⟨hS,hp1,hp2⟩:gD fl qs/\Small rows:=hp
 have px:=Aa.nd
 have hlen:(bQ true rows).length=rows.length:=ae ..
 change WS _ M0 H (aP nz) [.im (i7 C fl qs), .im (.tup (bQ true rows)), .un, .un] {N:=fun _=>D.bl (good fl rows)= .non,R:=fun d'=>d'= .bl (good fl rows)}
 refine WS.cons (W1.ite (ju.t (ju.or (cU.not (cU.val (aw.s_ rfl B.s_ rfl B.tuple (by decide +kernel) (.inr (.inr (.inr (.inl rfl)))) (aw.r (nm 1 rfl rfl)) rfl))) fun _=>ju.or1 (cU.cI .ne (aw.lenT rfl B.len (nm 1 rfl rfl)) (aw.meth0 L.t.cl L.st (hr.mono (by decide)) (aX nx) (fl,qs) (nm 0 rfl rfl) rfl trivial rfl)))) (fun h=> ?_) fun h=>WS.nil ?_)
 ·rw [qE,hlen]at h
  have h': ¬(rows.length:Int)=fl.st:=by simpa using h
  refine WS.one (W1.ret aw.bl ?_)
  show D.bl false=D.bl (good fl rows)
  unfold good
  rw [decide_eq_false h']
  rfl
 rw [qE,hlen]at h
 have g1:(rows.length:Int)=fl.st:=by simpa using h
 refine WS.cons (W1.setF (i:=2) px rfl (.inl rfl) (gV rfl) (eJ.lst aY.nil) ?_)
 refine WS.cons (W1.for (ds:=bQ true rows) (fun i ρ=>(rows.take i).all (jM fl)=true/\ ∃a,ρ= [.im (i7 C fl qs), .im (.tup (bQ true rows)), .mu ((rows.take i).flatten.map .int),a]) cF rfl (lE.tup (nm 1 rfl rfl)) ⟨by rw [il]; rfl,_,by rw [il]; rfl⟩ ?_ ?_)
 ·rintro i d ρ hd ⟨hall,a,rfl⟩
  obtain⟨r,hr',rfl⟩:=iQ hd
  have l1:=jJ rows i
  have l2:=kZ (bg hr')
  refine⟨_,Cd.name (i:=3) px rfl (.inl rfl) (gV rfl), ?_⟩
  change WS _ M0 H _ [.im (i7 C fl qs), .im (.tup (bQ true rows)), .mu ((rows.take i).flatten.map .int), .im (yY true (r.map .int))] _
  refine WS.cons (W1.ite (cU.not (cU.val (aw.call G hr (aX nx) rfl (fl,qs,r) (aY.cons (nm 0 rfl rfl) (aY.cons (nm 3 rfl rfl) aY.nil)) ⟨hS,show r.length<=1000 by omega⟩ rfl))) (fun h3=> ?_) fun h3=>WS.nil ?_)
  ·refine WS.one (W1.ret aw.bl ?_)
   have hf:jM fl r=false:=by simpa using h3
   show D.bl false=D.bl (good fl rows)
   unfold good
   have:rows.all (jM fl)=false:=by
    rw [IV]
    exact⟨r,bg hr',by rw [hf]; exact aF⟩
   rw [this,lX]
  have hf:jM fl r=true:=by simpa using h3
  refine WS.one (W1.extend (i:=2) (fs:=r.map .int) rfl (.inl rfl) rfl (nm 3 rfl rfl) rfl (by rw [ae,ae]; omega) ?_ ⟨rfl,rfl,rfl,rfl⟩)
  refine⟨?_, ?_⟩
  ·rw [eX,hr',wq,hall]
   simp [hf]
  ·rw [mE hr',bC]
   exact⟨_,rfl⟩
 rintro ρ ⟨hall,a,rfl⟩
 rw [hlen,dP]at hall
 rw [hlen,dP]
 refine WS.one (W1.ret (aw.cI .eq (aw.lenSet rfl rfl B.len rfl B.set (CB 2 rfl rfl) (by omega)) (aw.lenL rfl B.len (CB 2 rfl rfl))) ?_)
 show D.bl (decide (_=_))=D.bl (good fl rows)
 congr 1
 unfold good
 rw [decide_eq_true g1,hall,iU,gX,ae]
 apply decide_eq_decide.mpr
 rw [<-HB]
 omega
theorem Dq:bV ["floor","value"] ["floor","value"] (aE kA):=⟨rfl,rfl,rfl,by decide +kernel,rfl,by decide +kernel,by decide +kernel⟩
abbrev uP(P:aq)(w:World)(K:Frag)(mg:Str->Option Value)(base:Heap)(CX:gF)(C:Addr):Prop:=
 nq P w K mg base CX 2 "is_stack" (fun i:eG×fk×Int=> [i7 C i.1 i.2.1, .int i.2.2]) (fun _=>True) (fun i=> .ok (.bl (sF i.1 i.2.2)))
theorem A7{f:Addr}{fd:bj}(nx:NX CX)(L:Fl P w K mg base CX C)(G:oJ P w K mg base CX)(F:lu K "is_stack" "is_stack" kA f fd)(hm:mg "is_stack"=some (.ref f))(hb:Binds K fd ["floor","value"] []):uP P w K mg base CX C:=by
 refine fD F Dq hm hb (fun i=>rfl) fun cdv A outer s H E i M0 hp hr=>⟨_,rfl, ?_⟩
 obtain⟨fl,qs,v⟩:=i
 change WS _ M0 H (aP kA) [.im (i7 C fl qs), .im (.int v)] _
 exact WS.one (W1.ret (aw.call G hr (aX nx) rfl (v,0,fl.st - 1) (aY.cons (nm 1 rfl rfl) (aY.cons aw.int (aY.cons (aw.sub (aw.meth0 L.t.cl L.st hr (aX nx) (fl,qs) (nm 0 rfl rfl) rfl trivial rfl) aw.int) aY.nil))) trivial rfl) rfl)
theorem qL{rows:Rows}{v:Int}(h0:0<=v)(h:v < rows.length):wg (bQ true rows) v=some (yY true ((rowAt rows v).map .int)):=by
 have e:v=((v.toNat:Nat):Int):=by omega
 have hl:(bQ true rows).length=rows.length:=ae ..
 rw [rF e (by rw [hl]; omega)]
 have:=kn h0 h
 unfold bQ
 rw [bp]
 congr 3
 have h2:v.toNat < rows.length:=by omega
 rw [ah h2]at this
 exact aH this
theorem K0:bV ["floor","standing","lift","source","target"] ["floor","standing","lift"] (aE AF):=⟨rfl,rfl,rfl,by decide +kernel,rfl,by decide +kernel,by decide +kernel⟩
abbrev LU(P:aq)(w:World)(K:Frag)(mg:Str->Option Value)(base:Heap)(CX:gF)(C:Addr):Prop:=
 nq P w K mg base CX 3 "can_be_done" (fun i:eG×fk×Rows×pF=> [i7 C i.1 i.2.1, .tup (bQ true i.2.2.1),tD i.2.2.2]) (fun i=>(i.2.2.1.length:Int)=i.1.st) (fun i=> .ok (.bl (pE i.1 i.2.2.1 i.2.2.2)))
theorem LJ{f:Addr}{fd:bj}(nx:NX CX)(B:Bm mg)(L:Fl P w K mg base CX C)(G1:uP P w K mg base CX C)(G2:oJ P w K mg base CX)(F:lu K "can_be_done" "can_be_done" AF f fd)(hm:mg "can_be_done"=some (.ref f))(hb:Binds K fd ["floor","standing","lift"] []):LU P w K mg base CX C:=by
 refine fD F K0 hm hb (fun i=>rfl) fun cdv A outer s H E i M0 hp hr=>⟨_,rfl, ?_⟩
 obtain⟨fl,qs,rows,a,b,n⟩:=i
 have hl:(rows.length:Int)=fl.st:=hp
 have px:=K0.nd
 have hr1:=hr.mono (show 1<=2 by decide)
 change WS _ M0 H (aP AF) [.im (i7 C fl qs), .im (.tup (bQ true rows)), .im (.tup [.int a, .int b, .int n]), .un, .un] {N:=fun _=>D.bl (pE fl rows (a,b,n))= .non,R:=fun d'=>d'= .bl (pE fl rows (a,b,n))}
 refine WS.cons (W1.ite (ju.t (ju.or (cU.not (cU.val (aw.s_ rfl B.s_ rfl B.tuple (by decide +kernel) (.inr (.inr (.inr (.inl rfl)))) (aw.r (nm 2 rfl rfl)) rfl))) fun _=>ju.or1 (cU.cI .ne (aw.lenT rfl B.len (nm 2 rfl rfl)) aw.int))) (fun h=> ?_) fun h=>WS.nil ?_)
 ·rw [qE]at h
  simp at h
 refine WS.cons (W1.set (i:=3) px rfl (.inl rfl) (gV rfl) (aw.ixT (nm 2 rfl rfl) aw.int rfl) ?_)
 refine WS.cons (W1.set (i:=4) px rfl (.inl rfl) (gV rfl) (aw.ixT (nm 2 rfl rfl) aw.int rfl) ?_)
 change WS _ M0 H _ [.im (i7 C fl qs), .im (.tup (bQ true rows)), .im (.tup [.int a, .int b, .int n]), .im (.int a), .im (.int b)] _
 refine WS.cons (W1.ite (ju.t (ju.or (cU.not (cU.val (aw.call G1 hr (aX nx) rfl (fl,qs,a) (aY.cons (nm 0 rfl rfl) (aY.cons (nm 3 rfl rfl) aY.nil)) trivial rfl))) fun _=>ju.or (cU.not (cU.val (aw.call G1 hr (aX nx) rfl (fl,qs,b) (aY.cons (nm 0 rfl rfl) (aY.cons (nm 4 rfl rfl) aY.nil)) trivial rfl))) fun _=>ju.or1 (cU.cI .eq (nm 3 rfl rfl) (nm 4 rfl rfl)))) (fun h=> ?_) fun h=>WS.nil ?_)
 ·refine WS.one (W1.ret aw.bl ?_)
  show D.bl false=D.bl (pE fl rows (a,b,n))
  have:(sF fl a&&(sF fl b&& !decide (a=b)))=false:=by
   cases h1:sF fl a <;> cases h2:sF fl b <;> simp_all
  unfold pE
  rw [this,fu]
 ·have h3:(sF fl a&&(sF fl b&& !decide (a=b)))=true:=by
   cases h1:sF fl a <;> cases h2:sF fl b <;> simp_all
  have ha:0<=a/\a < rows.length:=by
   rw [bJ]at h3
   have:=h3.1
   unfold sF at this
   simp only [bJ,decide_eq_true_eq]at this
   omega
  refine WS.one (W1.ret (aw.call G2 hr1 (aX nx) rfl (n,1,least fl.lf (rowAt rows a).length) (aY.cons (aw.ixT (nm 2 rfl rfl) aw.int rfl) (aY.cons aw.int (aY.cons ?_ aY.nil))) trivial rfl) ?_)
  ·exact(aw.to (O_ (i:=fl.lf) (j:=(rowAt rows a).length) rfl rfl B.min (aw.meth0 L.t.cl L.lf hr1 (aX nx) (fl,qs) (nm 0 rfl rfl) rfl trivial rfl) (aw.to (aw.lenS (t:=true) rfl B.len (aw.ixT (nm 1 rfl rfl) (nm 3 rfl rfl) (qL ha.1 ha.2))) (by rw [ae]))) rfl)
  show D.bl _=D.bl (pE fl rows (a,b,n))
  unfold pE
  rw [h3,iU]
end
theorem wQ(rows:Rows)(i:Nat)(r:List Int):bQ true (rows.set i r)=(bQ true rows).set i (.tup (r.map .int)):=by
 unfold bQ
 rw [List.map_set]
 rfl
structure LD(rows:Rows)(t:pF):Prop where
 a0:0<=t.1
 a1:t.1 < rows.length
 b0:0<=t.2.1
 b1:t.2.1 < rows.length
 n0:0<=t.2.2
 nr:t.2.2<=(rowAt rows t.1).length
 sm:Small rows
theorem KY.mvOk{f:eG}{rows:Rows}{t:pF}(h:KY f rows t)(hl:(rows.length:Int)=f.st)(sm:Small rows):LD rows t:=⟨h.a0,by have:=h.a1; omega,h.b0,by have:=h.b1; omega,by have:=h.n1; omega,h.nr,sm⟩
theorem Hu{f:eG}{rows:Rows}{t:pF}(hl:(rows.length:Int)=f.st)(h:KY f rows t)(sm:Small rows):Small (mv rows t):=⟨by rw [(B6 hl h).length_eq]; exact sm.fl,by rw [HI]; exact sm.n⟩
theorem wW{rows:Rows}{v:Int}(h0:0<=v)(h:v < rows.length):(rowAt rows v).length<=rows.flatten.length:=kZ (bg (kn h0 h))
section
variable {P:aq}{w:World}{K:Frag}{mg:Str->Option Value}{base:Heap}{CX:gF}{C:Addr}
theorem Ck:bV ["standing","lift","source","target","left","stacks"] ["standing","lift"] (aE pQ):=⟨rfl,rfl,rfl,by decide +kernel,rfl,by decide +kernel,by decide +kernel⟩
abbrev rP(P:aq)(w:World)(K:Frag)(mg:Str->Option Value)(base:Heap)(CX:gF):Prop:=
 nq P w K mg base CX 1 "moved" (fun i:Rows×pF=> [.tup (bQ true i.1),tD i.2]) (fun i=>LD i.1 i.2) (fun i=> .ok (.tup (bQ true (mv i.1 i.2))))
theorem HW{f:Addr}{fd:bj}(B:Bm mg)(F:lu K "moved" "moved" pQ f fd)(hm:mg "moved"=some (.ref f))(hb:Binds K fd ["standing","lift"] []):rP P w K mg base CX:=by
 refine fD F Ck hm hb (fun i=>rfl) fun cdv A outer s H E i M0 hp hr=>⟨_,rfl, ?_⟩
 obtain⟨rows,a,b,n⟩:=i
 obtain⟨a0,a1,b0,b1,n0,nr,sm⟩:=(hp:LD rows (a,b,n))
 dsimp only at a0 a1 b0 b1 n0 nr
 have px:=Ck.nd
 have hl:(bQ true rows).length=rows.length:=ae ..
 have ra:=wW a0 a1
 have rb:=wW b0 b1
 have sf:rows.flatten.length<=1000:=sm.fl
 have ek:((rowAt rows a).length:Int) - n=(((rowAt rows a).length - n.toNat:Nat):Int):=by omega
 change WS _ M0 H (aP pQ) [.im (.tup (bQ true rows)), .im (.tup [.int a, .int b, .int n]), .un, .un, .un, .un] {N:=fun _=>D.tup (bQ true (mv rows (a,b,n)))= .non,R:=fun d'=>d'= .tup (bQ true (mv rows (a,b,n)))}
 refine WS.cons (W1.set (i:=2) px rfl (.inl rfl) (gV rfl) (aw.ixT (nm 1 rfl rfl) aw.int rfl) ?_)
 refine WS.cons (W1.set (i:=3) px rfl (.inl rfl) (gV rfl) (aw.ixT (nm 1 rfl rfl) aw.int rfl) ?_)
 refine WS.cons (W1.set (i:=4) px rfl (.inl rfl) (gV rfl) (aw.to (aw.sub (aw.lenS (t:=true) rfl B.len (aw.ixT (nm 0 rfl rfl) (nm 2 rfl rfl) (qL a0 a1))) (aw.ixT (nm 1 rfl rfl) aw.int rfl)) (by rw [ae,ek])) ?_)
 refine WS.cons (W1.setF (i:=5) px rfl (.inl rfl) (gV rfl) (eJ.listT rfl B.list (nm 0 rfl rfl)) ?_)
 change WS _ M0 H _ [.im (.tup (bQ true rows)), .im (.tup [.int a, .int b, .int n]), .im (.int a), .im (.int b), .im (.int (((rowAt rows a).length - n.toNat:Nat):Int)), .mu (bQ true rows)] _
 refine WS.cons (W1.setIx (i:=5) (n:=a.toNat) rfl (.inl rfl) rfl (aw.to (aw.cutT (aw.ixT (nm 0 rfl rfl) (nm 2 rfl rfl) (qL a0 a1)) Ay.none (Ay.some (nm 4 rfl rfl))) (d':= .tup (((rowAt rows a).take ((rowAt rows a).length - n.toNat)).map .int)) (by rw [L4 (by rw [ae]; omega),List.map_take])) (nm 2 rfl rfl) (by omega) (by rw [hl]; omega) ?_)
 dsimp only
 rw [<-wQ]
 change WS _ M0 H _ [.im (.tup (bQ true rows)), .im (.tup [.int a, .int b, .int n]), .im (.int a), .im (.int b), .im (.int (((rowAt rows a).length - n.toNat:Nat):Int)), .mu (bQ true (rows.set a.toNat ((rowAt rows a).take ((rowAt rows a).length - n.toNat))))] _
 refine WS.cons (W1.setIx (i:=5) (n:=b.toNat) rfl (.inl rfl) rfl (aw.to (aw.catT (aw.ixT (nm 0 rfl rfl) (nm 3 rfl rfl) (qL b0 b1)) (aw.cutT (aw.ixT (nm 0 rfl rfl) (nm 2 rfl rfl) (qL a0 a1)) (Ay.some (nm 4 rfl rfl)) Ay.none) ?_) (d':= .tup ((rowAt rows b ++ (rowAt rows a).drop ((rowAt rows a).length - n.toNat)).map .int)) ?_) (nm 3 rfl rfl) (by omega) ?_ ?_)
 ·rw [FP (by rw [ae]; omega),ae,bI,ae]
  omega
 ·rw [FP (by rw [ae]; omega),bC,List.map_drop]
 ·show b.toNat < ((rows.set a.toNat _).map _).length
  rw [ae,bL]
  omega
 dsimp only
 rw [<-wQ]
 exact WS.one (W1.ret (aw.tupleL rfl B.tuple (CB 5 rfl rfl)) rfl)
theorem JM:bV ["floor","standing","lift"] ["floor","standing","lift"] (aE pP):=⟨rfl,rfl,rfl,by decide +kernel,rfl,by decide +kernel,by decide +kernel⟩
structure HC(f:eG)(qs:fk)(rows:Rows):Prop where
 s:gD f qs
 l:(rows.length:Int)=f.st
 sm:Small rows
abbrev Bl(P:aq)(w:World)(K:Frag)(mg:Str->Option Value)(base:Heap)(CX:gF)(C:Addr):Prop:=
 nq P w K mg base CX 5 "is_let" (fun i:eG×fk×Rows×pF=> [i7 C i.1 i.2.1, .tup (bQ true i.2.2.1),tD i.2.2.2]) (fun i=>HC i.1 i.2.1 i.2.2.1) (fun i=> .ok (.bl (isLet i.1 i.2.2.1 i.2.2.2)))
theorem Gu{f:Addr}{fd:bj}(nx:NX CX)(G1:LU P w K mg base CX C)(G2:tm P w K mg base CX C)(G3:rP P w K mg base CX)(F:lu K "is_let" "is_let" pP f fd)(hm:mg "is_let"=some (.ref f))(hb:Binds K fd ["floor","standing","lift"] []):Bl P w K mg base CX C:=by
 refine fD F JM hm hb (fun i=>rfl) fun cdv A outer s H E i M0 hp hr=>⟨_,rfl, ?_⟩
 obtain⟨fl,qs,rows,t⟩:=i
 obtain⟨hS,hl,sm⟩:=(hp:HC fl qs rows)
 change WS _ M0 H (aP pP) [.im (i7 C fl qs), .im (.tup (bQ true rows)), .im (tD t)] {N:=fun _=>D.bl (isLet fl rows t)= .non,R:=fun d'=>d'= .bl (isLet fl rows t)}
 refine WS.one (W1.ret (aw.and (aw.call G1 (hr.mono (by decide)) (aX nx) rfl (fl,qs,rows,t) (aY.cons (nm 0 rfl rfl) (aY.cons (nm 1 rfl rfl) (aY.cons (nm 2 rfl rfl) aY.nil))) hl rfl) fun hc=>aw.one (aw.call G2 hr (aX nx) rfl (fl,qs,mv rows t) (aY.cons (nm 0 rfl rfl) (aY.cons (aw.call G3 (hr.mono (by decide)) (aX nx) rfl (rows,t) (aY.cons (nm 1 rfl rfl) (aY.cons (nm 2 rfl rfl) aY.nil)) ((oS.mp hc).mvOk hl sm) rfl) aY.nil)) ⟨hS,Hu hl (oS.mp hc) sm⟩ rfl)) rfl)
structure vT(f:eG)(qs:fk)(rows:Rows):Prop where
 s:gD f qs
 g:good f rows=true
theorem vT.sm{f:eG}{qs:fk}{rows:Rows}(h:vT f qs rows):Small rows:=by
 have h1:=pW h.g h.s.ok.st.2 h.s.ok.ht.2
 have h2:=g6 h.g
 have h3:=h.s.ok.st.2
 exact⟨by omega,by omega⟩
theorem vT.le{f:eG}{qs:fk}{rows:Rows}(h:vT f qs rows):HC f qs rows:=⟨h.s,g6 h.g,h.sm⟩
theorem Hw:bV ["floor","standing"] ["floor","standing"] (aE lq):=⟨rfl,rfl,rfl,by decide +kernel,rfl,by decide +kernel,by decide +kernel⟩
abbrev JH(P:aq)(w:World)(K:Frag)(mg:Str->Option Value)(base:Heap)(CX:gF)(C:Addr):Prop:=
 nq P w K mg base CX 5 "refuse_unless_good" (fun i:eG×fk×Rows=> [i7 C i.1 i.2.1, .tup (bQ true i.2.2)]) (fun i=>vT i.1 i.2.1 i.2.2) (fun i=> .ok .non)
def JU(a b k:Nat):pF:=((0:Int)+(a:Int),(0:Int)+(b:Int),(1:Int)+(k:Int))
def DH(f:eG)(rows:Rows)(a b n:Nat):List pF:=((bH n).map (JU a b)).filter (isLet f rows)
def B4(f:eG)(rows:Rows)(a m:Nat):List pF:=(bH m).flatMap fun b=>DH f rows a b f.lf.toNat
def DW(f:eG)(rows:Rows)(m:Nat):List pF:=(bH m).flatMap fun a=>B4 f rows a f.st.toNat
def lets(f:eG)(rows:Rows):List pF:=DW f rows f.st.toNat
theorem zS(f:eG)(rows:Rows)(a b n:Nat):DH f rows a b (n+1)=DH f rows a b n ++ (if isLet f rows (JU a b n)then [JU a b n]else []):=by
 unfold DH
 rw [ph,bC,IP]
 congr 1
 show List.filter _ [JU a b n]=_
 rw [List.filter_cons]
 rfl
theorem Ad(f:eG)(rows:Rows)(a m:Nat):B4 f rows a (m+1)=B4 f rows a m ++ DH f rows a m f.lf.toNat:=by
 unfold B4
 rw [ph,List.flatMap_append]
 simp
theorem zN(f:eG)(rows:Rows)(m:Nat):DW f rows (m+1)=DW f rows m ++ B4 f rows m f.st.toNat:=by
 unfold DW
 rw [ph,List.flatMap_append]
 simp
theorem Cj(f:eG)(rows:Rows)(a b n:Nat):(DH f rows a b n).length<=n:=by
 unfold DH
 exact bE (List.length_filter_le _ _) (by rw [ae,cg]; exact ay _)
theorem ye(f:eG)(rows:Rows)(a:Nat): ∀m,(B4 f rows a m).length<=f.lf.toNat * m
 | 0=>by simp [B4]
 | m+1=>by
  have h1:=ye f rows a m
  have h2:=Cj f rows a m f.lf.toNat
  rw [Ad,ao,Nat.mul_succ]
  omega
theorem xG(f:eG)(rows:Rows): ∀m,(DW f rows m).length<=f.lf.toNat * f.st.toNat * m
 | 0=>by simp [DW]
 | m+1=>by
  have h1:=xG f rows m
  have h2:=ye f rows m f.st.toNat
  rw [zN,ao,Nat.mul_succ]
  omega
theorem HU{f:eG}{rows:Rows}{t:pF}(h1:0<=f.st)(h2:0<=f.lf):t∈lets f rows↔isLet f rows t=true:=by
 unfold lets DW B4 DH
 simp only [KH,gw,o7,bh]
 constructor
 ·rintro⟨a,_,b,_,_,h⟩
  exact h
 ·intro h
  have hc:KY f rows t:=oS.mp (by unfold isLet at h; rw [bJ]at h; exact h.1)
  obtain⟨a0,a1,b0,b1,ne,n1,nl,nr⟩:=hc
  obtain⟨a,b,n⟩:=t
  dsimp only at *
  refine⟨a.toNat,by omega,b.toNat,by omega,⟨(n - 1).toNat,by omega, ?_⟩,h⟩
  unfold JU
  have e1:(0:Int)+(a.toNat:Int)=a:=by omega
  have e2:(0:Int)+(b.toNat:Int)=b:=by omega
  have e3:(1:Int)+((n - 1).toNat:Int)=n:=by omega
  rw [e1,e2,e3]
theorem Cf:bV ["floor","standing","found","source","target","many","lift"] ["floor","standing"] (aE n_):=⟨rfl,rfl,rfl,by decide +kernel,rfl,by decide +kernel,by decide +kernel⟩
abbrev xA(P:aq)(w:World)(K:Frag)(mg:Str->Option Value)(base:Heap)(CX:gF)(C:Addr):Prop:=
 nq P w K mg base CX 6 "lifts" (fun i:eG×fk×Rows=> [i7 C i.1 i.2.1, .tup (bQ true i.2.2)]) (fun i=>vT i.1 i.2.1 i.2.2) (fun i=> .ok (.lst ((lets i.1 i.2.2).map tD)))
end
section
variable {P:aq}{w:World}{K:Frag}{mg:Str->Option Value}{base:Heap}{C CS CL:Addr}
abbrev ku(P:aq)(w:World)(K:Frag)(mg:Str->Option Value)(base:Heap)(C CS:Addr):Prop:=
 nq P w K mg base (g8 P w) 5 "refuse_unless_good" (fun i:eG×fk×Rows=> [i7 C i.1 i.2.1, .tup (bQ true i.2.2)]) (fun i=>gD i.1 i.2.1/\Small i.2.2) (fun i=>if good i.1 i.2.2 then .ok .non else .error CS)
theorem AS{f:Addr}{fd:bj}(er:yU "NoStanding" CS mg base)(G:tm P w K mg base (g8 P w) C)(F:lu K "refuse_unless_good" "refuse_unless_good" lq f fd)(hm:mg "refuse_unless_good"=some (.ref f))(hb:Binds K fd ["floor","standing"] []):ku P w K mg base C CS:=by
 refine oY F Hw hm hb (fun i=>rfl) fun cdv A outer s H E i M0 hp hr=> ?_
 obtain⟨fl,qs,rows⟩:=i
 obtain⟨hS,sm⟩:gD fl qs/\Small rows:=hp
 have nx:NX (g8 P w):=lG
 by_cases hg:good fl rows=true
 ·refine .inl ⟨.non,if_pos hg, ?_⟩
  change WS _ M0 H (aP lq) [.im (i7 C fl qs), .im (.tup (bQ true rows))] {N:=fun _=>D.non= .non,R:=fun d'=>d'= .non}
  refine WS.one (W1.ite (cU.not (cU.val (aw.call G hr (aX nx) rfl (fl,qs,rows) (aY.cons (nm 0 rfl rfl) (aY.cons (nm 1 rfl rfl) aY.nil)) ⟨hS,sm⟩ rfl))) (fun h=> ?_) fun h=>WS.nil rfl)
  rw [hg]at h
  cases h
 ·refine .inr ⟨CS,if_neg hg, ?_⟩
  change fQ _ [.im (i7 C fl qs), .im (.tup (bQ true rows))] E (aP lq) CS
  refine fQ.here (vX.ite (t:=true) (cU.to (cU.not (cU.val (aw.call G hr (aX nx) rfl (fl,qs,rows) (aY.cons (nm 0 rfl rfl) (aY.cons (nm 1 rfl rfl) aY.nil)) ⟨hS,sm⟩ rfl))) (by simp [hg])) (fun _=>fQ.here (vX.raise er rfl aw.str)) fun h=>by cases h)
end
theorem yN{P:aq}{w:World}{K:Frag}{mg:Str->Option Value}{base:Heap}{CX:gF}{k:Nat}{x:Str}{ι:Type}{args:ι->List D}{pre pre':ι->Prop}{res res':ι->Except Addr D}(F:nq P w K mg base CX k x args pre res)(h: ∀i,pre' i->pre i/\res i=res' i):nq P w K mg base CX k x args pre' res':=by
 obtain⟨f,fd,ps,F,r⟩:=F.ex
 refine⟨f,fd,ps,F.imp fun vs H Q E ⟨i,M0,hM,d,hp,k1,k2⟩=> ?_,r⟩
 obtain⟨p,e⟩:=h i hp
 exact⟨i,M0,hM,d,p,by rw [e]; exact k1,by rw [e]; exact k2⟩
section
variable {P:aq}{w:World}{K:Frag}{mg:Str->Option Value}{base:Heap}{C CS CL:Addr}
theorem yV(G:ku P w K mg base C CS):JH P w K mg base (g8 P w) C:=yN G fun i h=>⟨⟨h.s,h.sm⟩,if_pos h.g⟩
abbrev yl(P:aq)(w:World)(K:Frag)(mg:Str->Option Value)(base:Heap)(C CS:Addr):Prop:=
 nq P w K mg base (g8 P w) 6 "lifts" (fun i:eG×fk×Rows=> [i7 C i.1 i.2.1, .tup (bQ true i.2.2)]) (fun i=>gD i.1 i.2.1/\Small i.2.2) (fun i=>if good i.1 i.2.2 then .ok (.lst ((lets i.1 i.2.2).map tD))else .error CS)
theorem C4{f:Addr}{fd:bj}(B:Bm mg)(L:Fl P w K mg base (g8 P w) C)(GX:ku P w K mg base C CS)(G2:Bl P w K mg base (g8 P w) C)(F:lu K "lifts" "lifts" n_ f fd)(hm:mg "lifts"=some (.ref f))(hb:Binds K fd ["floor","standing"] []):yl P w K mg base C CS:=by
 have nx:NX (g8 P w):=lG
 have G1:=yV GX
 refine oY F Cf hm hb (fun i=>rfl) fun cdv A outer s H E i M0 hp hr=> ?_
 obtain⟨fl,qs,rows⟩:=i
 obtain⟨hS,sm⟩:gD fl qs/\Small rows:=hp
 by_cases hgd:good fl rows=true
 ·refine .inl ⟨_,if_pos hgd, ?_⟩
  have hg:vT fl qs rows:=⟨hS,hgd⟩
  have px:=Cf.nd
  have hr1:=hr.mono (show 1<=5 by decide)
  have st:=hg.s.ok.st
  have lf:=hg.s.ok.lf
  have lft:fl.lf.toNat<=3:=by omega
  have stt:fl.st.toNat<=4:=by omega
  have b1:fl.lf.toNat * fl.st.toNat<=12:=qv lft stt
  change WS _ M0 H (aP n_) [.im (i7 C fl qs), .im (.tup (bQ true rows)), .un, .un, .un, .un, .un] {N:=fun _=>D.lst ((lets fl rows).map tD)= .non,R:=fun d'=>d'= .lst ((lets fl rows).map tD)}
  refine WS.cons (W1.expr (aw.call G1 hr (aX nx) rfl (fl,qs,rows) (aY.cons (nm 0 rfl rfl) (aY.cons (nm 1 rfl rfl) aY.nil)) hg rfl) ?_)
  refine WS.cons (W1.setF (i:=2) px rfl (.inl rfl) (gV rfl) (eJ.lst aY.nil) ?_)
  refine WS.cons (W1.for (ds:=lF 0 fl.st.toNat) (fun i ρ=> ∃a b c d,ρ= [.im (i7 C fl qs), .im (.tup (bQ true rows)), .mu ((DW fl rows i).map tD),a,b,c,d]) cF rfl (lE.range rfl B.range (aw.meth0 L.t.cl L.st hr1 (aX nx) (fl,qs) (nm 0 rfl rfl) rfl trivial rfl) (by omega)) ⟨_,_,_,_,rfl⟩ ?_ ?_)
  ·rintro i d ρ hd ⟨a,b,c,d',rfl⟩
   obtain⟨rfl,hi⟩:=kz hd
   have hl1:=xG fl rows i
   have b2:fl.lf.toNat * fl.st.toNat * i<=12 * 4:=qv b1 (by omega)
   refine⟨_,Cd.name (i:=3) px rfl (.inl rfl) (gV rfl), ?_⟩
   refine WS.one (W1.for (ds:=lF 0 fl.st.toNat) (fun j ρ=> ∃b c d,ρ= [.im (i7 C fl qs), .im (.tup (bQ true rows)), .mu ((DW fl rows i ++ B4 fl rows i j).map tD), .im (.int (0+(i:Int))),b,c,d]) cF rfl (lE.range rfl B.range (aw.meth0 L.t.cl L.st hr1 (aX nx) (fl,qs) (nm 0 rfl rfl) rfl trivial rfl) (by omega)) ⟨_,_,_,by rw [show B4 fl rows i 0= []from rfl,bq]; rfl⟩ ?_ ?_)
   ·rintro j d ρ hd ⟨b,c,d',rfl⟩
    obtain⟨rfl,hj⟩:=kz hd
    have hl2:=ye fl rows i j
    have b3:fl.lf.toNat * j<=3 * 4:=qv lft (by omega)
    refine⟨_,Cd.name (i:=4) px rfl (.inl rfl) (gV rfl), ?_⟩
    refine WS.one (W1.for (ds:=lF 1 fl.lf.toNat) (fun k ρ=> ∃c d,ρ= [.im (i7 C fl qs), .im (.tup (bQ true rows)), .mu ((DW fl rows i ++ B4 fl rows i j ++ DH fl rows i j k).map tD), .im (.int (0+(i:Int))), .im (.int (0+(j:Int))),c,d]) cF rfl
     (lE.to (lE.range2 (i:=1) (j:=fl.lf+1) rfl B.range aw.int (aw.add (aw.meth0 L.t.cl L.lf hr1 (aX nx) (fl,qs) (nm 0 rfl rfl) rfl trivial rfl) aw.int) (by omega)) (by congr 1; omega)) ⟨_,_,by rw [show DH fl rows i j 0= []from rfl,bq]; rfl⟩ ?_ ?_)
    ·rintro k d ρ hd ⟨c,d',rfl⟩
     obtain⟨rfl,hk⟩:=kz hd
     have hl3:=Cj fl rows i j k
     refine⟨_,Cd.name (i:=5) px rfl (.inl rfl) (gV rfl), ?_⟩
     refine WS.cons (W1.set (i:=6) px rfl (.inl rfl) (gV rfl) (aw.tup (aY.cons (nm 3 rfl rfl) (aY.cons (nm 4 rfl rfl) (aY.cons (nm 5 rfl rfl) aY.nil)))) ?_)
     change WS _ M0 H _ [.im (i7 C fl qs), .im (.tup (bQ true rows)), .mu ((DW fl rows i ++ B4 fl rows i j ++ DH fl rows i j k).map tD), .im (.int (0+(i:Int))), .im (.int (0+(j:Int))), .im (.int (1+(k:Int))), .im (tD (JU i j k))] _
     refine WS.one (W1.ite (cU.val (aw.call G2 hr (aX nx) rfl (fl,qs,rows,JU i j k) (aY.cons (nm 0 rfl rfl) (aY.cons (nm 1 rfl rfl) (aY.cons (nm 6 rfl rfl) aY.nil))) hg.le rfl)) (fun h=> ?_) fun h=>WS.nil ?_)
     ·refine WS.one (W1.append (i:=2) rfl (.inl rfl) rfl (nm 6 rfl rfl) (by rw [ae,ao,ao]; omega) ?_ ⟨rfl,rfl,rfl,rfl⟩)
      have e:(DW fl rows i ++ B4 fl rows i j ++ DH fl rows i j (k+1)).map tD=(DW fl rows i ++ B4 fl rows i j ++ DH fl rows i j k).map tD ++ [tD (JU i j k)]:=by
       rw [zS,if_pos h, <-aV,bC (l₂:= [JU i j k])]
       rfl
      exact⟨_,_,by rw [e]; rfl⟩
     ·dsimp only
      rw [zS,if_neg (by rw [h]; exact aF),bq]
      exact⟨_,_,rfl⟩
    ·rintro ρ ⟨c,d,rfl⟩
     rw [iw]
     dsimp only
     rw [Ad, <-aV]
     exact⟨_,_,_,rfl⟩
   ·rintro ρ ⟨b,c,d,rfl⟩
    rw [iw]
    dsimp only
    rw [zN]
    exact⟨_,_,_,_,rfl⟩
  ·rintro ρ ⟨a,b,c,d,rfl⟩
   rw [iw]
   exact WS.freeze (i:=2) rfl (WS.one (W1.ret (nm 2 rfl rfl) rfl))
 ·refine .inr ⟨CS,if_neg hgd, ?_⟩
  change fQ _ [.im (i7 C fl qs), .im (.tup (bQ true rows)), .un, .un, .un, .un, .un] E (aP n_) CS
  exact fQ.here (vX.expr (Ie.call (i:=(fl,qs,rows)) GX hr lj rfl (aY.cons (nm 0 rfl rfl) (aY.cons (nm 1 rfl rfl) aY.nil)) ⟨hS,sm⟩ (if_neg hgd)))
end
def bk(t:pF):pF:=(t.2.1,t.1,t.2.2)
theorem oh{rows:Rows}{v:Int}{r:List Int}(h0:0<=v)(h:v < rows.length):rowAt (rows.set v.toNat r) v=r:=by
 unfold rowAt
 rw [aB,fM,if_pos rfl,if_pos (by omega)]
 rfl
theorem ya{rows:Rows}{i:Nat}{v:Int}{r:List Int}(h:i≠v.toNat):rowAt (rows.set i r) v=rowAt rows v:=by
 unfold rowAt
 rw [aB,fM,if_neg h,aB]
theorem Hq{f:eG}{rows:Rows}{t:pF}(hg:good f rows=true)(h:isLet f rows t=true):isLet f (mv rows t) (bk t)=true/\mv (mv rows t) (bk t)=rows:=by
 have hl:=g6 hg
 have hc:KY f rows t:=oS.mp (by unfold isLet at h; rw [bJ]at h; exact h.1)
 obtain⟨a0,a1,b0,b1,ne,n1,nl,nr⟩:=hc
 obtain⟨a,b,n⟩:=t
 dsimp only at a0 a1 b0 b1 ne n1 nl nr
 have ha:a < rows.length:=by omega
 have hb:b < rows.length:=by omega
 have hne:a.toNat≠b.toNat:=by omega
 have eR:mv rows (a,b,n)=(rows.set a.toNat ((rowAt rows a).take ((rowAt rows a).length - n.toNat))).set b.toNat (rowAt rows b ++ (rowAt rows a).drop ((rowAt rows a).length - n.toNat)):=rfl
 have e1:rowAt (mv rows (a,b,n)) b=rowAt rows b ++ (rowAt rows a).drop ((rowAt rows a).length - n.toNat):=by
  rw [eR]
  exact oh b0 (by rw [bL]; exact hb)
 have e2:rowAt (mv rows (a,b,n)) a=(rowAt rows a).take ((rowAt rows a).length - n.toNat):=by
  rw [eR,ya hne.symm,oh a0 ha]
 have l1:(rowAt (mv rows (a,b,n)) b).length - n.toNat=(rowAt rows b).length:=by
  rw [e1,ao,bI]
  omega
 have e3:mv (mv rows (a,b,n)) (bk (a,b,n))=rows:=by
  show(((mv rows (a,b,n)).set b.toNat ((rowAt (mv rows (a,b,n)) b).take ((rowAt (mv rows (a,b,n)) b).length - n.toNat))).set a.toNat (rowAt (mv rows (a,b,n)) a ++ (rowAt (mv rows (a,b,n)) b).drop ((rowAt (mv rows (a,b,n)) b).length - n.toNat)))=rows
  rw [l1,e1,e2,List.take_left,List.drop_left,bb,eR,List.set_set,List.set_comm _ _ hne,List.set_set,qQ (kn b0 hb),qQ (kn a0 ha)]
 refine⟨?_,e3⟩
 unfold isLet
 rw [e3,hg,gX]
 refine oS.mpr ⟨b0,b1,a0,a1,fun z=>ne z.symm,n1,nl, ?_⟩
 show n<=((rowAt (mv rows (a,b,n)) b).length:Int)
 rw [e1,ao,bI]
 omega
abbrev rT(rows:Rows):D:= .tup (bQ true rows)
theorem oN(n:Nat)(l:List Int):D.flat (n+1) (.lst (l.map .int)):=fun d hd=>by
 obtain⟨i,_,rfl⟩:=bh.mp hd
 cases n <;> exact c_
theorem uF(ns:List Int)(first:Nat): ∀k,(gQ ns first 7 k).all qC=true
 | 0=>rfl
 | k+1=>by
  have ih:=uF ns first k
  unfold gQ
  dsimp only
  split
  ·exact ih
  ·rename_i hne
   rw [wq,ih,iU]
   simp only [List.all_cons,List.all_nil,gX]
   unfold qC j_
   dsimp only
   have h1:=iX (cellAt ns (first+1+k)) (show((7:Nat):Int)≠0 by decide)
   have h2:=gN (cellAt ns (first+1+k)) (show(0:Int) < ((7:Nat):Int) by decide)
   have h3:=iX (cellAt ns (first+1+k) / ((7:Nat):Int)) (show((7:Nat):Int)≠0 by decide)
   have h4:=gN (cellAt ns (first+1+k) / ((7:Nat):Int)) (show(0:Int) < ((7:Nat):Int) by decide)
   rw [decide_eq_true h1,decide_eq_true h3,decide_eq_false hne,decide_eq_true (by omega),decide_eq_true (by omega)]
   rfl
theorem J5(ns:List Int):vV (uO ns 0 7):=by
 refine⟨?_, ?_, ?_, ?_,uF ns 0 _⟩
 ·show 2<=2+_ % 3/\2+_ % 3<=4
  omega
 ·show 1<=1+_ % 6/\1+_ % 6<=6
  omega
 ·show 1<=1+_ % 3/\1+_ % 3<=3
  omega
 ·have:=oj ns 0 7 (cellAt ns 0 / 72 % 5).toNat
  have h2:(cellAt ns 0 / 72 % 5).toNat<=4:=by omega
  exact bE this h2
section
variable {P:aq}{w:World}{K:Frag}{mg:Str->Option Value}{base:Heap}{CX:gF}{C:Addr}
theorem zC:bV ["standing","found","stack"] ["standing"] (aE nB):=⟨rfl,rfl,rfl,by decide +kernel,rfl,by decide +kernel,by decide +kernel⟩
abbrev yp(P:aq)(w:World)(K:Frag)(mg:Str->Option Value)(base:Heap)(CX:gF):Prop:=
 nq P w K mg base CX 1 "_law_crates" (fun rows:Rows=> [rT rows]) (fun rows=>rows.flatten.length < 64) (fun rows=> .ok (.lst ((n9 rows.flatten).map .int)))
theorem DT{f:Addr}{fd:bj}(B:Bm mg)(F:lu K "_law_crates" "_law_crates" nB f fd)(hm:mg "_law_crates"=some (.ref f))(hb:Binds K fd ["standing"] []):yp P w K mg base CX:=by
 refine fD F zC hm hb (fun i=>rfl) fun cdv A outer s H E rows M0 hp hr=>⟨_,rfl, ?_⟩
 have hp':rows.flatten.length < 64:=hp
 have px:=zC.nd
 have hlen:(bQ true rows).length=rows.length:=ae ..
 change WS _ M0 H (aP nB) [.im (rT rows), .un, .un] _
 refine WS.cons (W1.setF (i:=1) px rfl (.inl rfl) (gV rfl) (eJ.lst aY.nil) ?_)
 refine WS.cons (W1.for (ds:=bQ true rows) (fun i ρ=> ∃a,ρ= [.im (rT rows), .mu ((rows.take i).flatten.map .int),a]) cF rfl (lE.tup (nm 0 rfl rfl)) ⟨_,by rw [il]; rfl⟩ ?_ ?_)
 ·rintro i d ρ hd ⟨a,rfl⟩
  obtain⟨r,hr',rfl⟩:=iQ hd
  have l1:=jJ rows i
  have l2:=kZ (bg hr')
  refine⟨_,Cd.name (i:=2) px rfl (.inl rfl) (gV rfl), ?_⟩
  refine WS.one (W1.extend (i:=1) (fs:=r.map .int) rfl (.inl rfl) rfl (eJ.toD (eJ.listS (t:=true) rfl B.list (nm 2 rfl rfl))) rfl (by rw [ae,ae]; omega) ?_ ⟨rfl,rfl,rfl,rfl⟩)
  dsimp only
  rw [mE hr',bC]
  exact⟨_,rfl⟩
 rintro ρ ⟨a,rfl⟩
 rw [hlen,dP]
 exact WS.one (W1.ret (eJ.toD (eJ.sortedI rfl B.sorted (CB 1 rfl rfl) hp')) rfl)
end
end K
namespace Z
section
variable {α:Type} [DecidableEq α]
def visit(h:Int)(kv:List (α×Int))(k:α):List (α×Int):=if k∈kv.map (·.1)then kv else kv ++ [(k,h+1)]
def pI(nb:α->List α)(kv:List (α×Int))(d:Nat):List (α×Int):=match kv[d]? with
 | some (k,h)=>(nb k).foldl (visit h) kv
 | none=>kv
def Ja(nb:α->List α):Nat->List (α×Int)->Nat->List (α×Int)
 | 0,kv,_=>kv
 | n+1,kv,d=>if d < kv.length then Ja nb n (pI nb kv d) (d+1)else kv
variable {nb:α->List α}{g:α}
structure BI(nb:α->List α)(g:α)(kv:List (α×Int))(d:Nat):Prop where
 fst:kv[0]? =some (g,0)
 nd:(kv.map (·.1)).Nodup
 par: ∀(j:Nat) k h,kv[j]? =some (k,h)->0 < j-> ∃i k' h',i < j/\i < d/\kv[i]? =some (k',h')/\k∈nb k'/\h=h'+1
 JW: ∀(i:Nat) k h,i < d->kv[i]? =some (k,h)-> ∀k'∈nb k, ∃h',(k',h')∈kv/\h'<=h+1
 asc: ∀(i j:Nat) k h k' h',i<=j->kv[i]? =some (k,h)->kv[j]? =some (k',h')->h<=h'
 top: ∀(i:Nat) k h k' h',d<=i->kv[i]? =some (k,h)->(k',h')∈kv->h'<=h+1
theorem BI.start:BI nb g [(g,0)] 0:=by
 refine⟨rfl,by simp,fun j k h e hj=> ?_,fun i k h hi=>absurd hi (by omega),fun i j k h k' h' hij e1 e2=> ?_,fun i k h k' h' _ e1 e2=> ?_⟩
 ·rw [bt (by simp; omega)]at e; cases e
 ·have h1:i=0:=by
   rcases mf i with z | z
   ·exact z
   ·rw [bt (by simp; omega)]at e1; cases e1
  have h2:j=0:=by
   rcases mf j with z | z
   ·exact z
   ·rw [bt (by simp; omega)]at e2; cases e2
  subst h1 h2
  rw [e1]at e2
  cases e2
  exact E9 _
 ·have h1:i=0:=by
   rcases mf i with z | z
   ·exact z
   ·rw [bt (by simp; omega)]at e1; cases e1
  subst h1
  cases e1
  have:(k',h')=(g,0):=by simpa using e2
  cases this
  decide
structure BM(nb:α->List α)(g:α)(kv:List (α×Int))(d:Nat)(k0:α)(h0:Int)(l:List α):Prop where
 fst:kv[0]? =some (g,0)
 nd:(kv.map (·.1)).Nodup
 at_:kv[d]? =some (k0,h0)
 par: ∀(j:Nat) k h,kv[j]? =some (k,h)->0 < j-> ∃i k' h',i < j/\i < d+1/\kv[i]? =some (k',h')/\k∈nb k'/\h=h'+1
 JW: ∀(i:Nat) k h,i < d->kv[i]? =some (k,h)-> ∀k'∈nb k, ∃h',(k',h')∈kv/\h'<=h+1
 now: ∀k'∈l, ∃h',(k',h')∈kv/\h'<=h0+1
 asc: ∀(i j:Nat) k h k' h',i<=j->kv[i]? =some (k,h)->kv[j]? =some (k',h')->h<=h'
 top: ∀k' h',(k',h')∈kv->h'<=h0+1
theorem BM.visit{kv:List (α×Int)}{d:Nat}{k0:α}{h0:Int}{l:List α}(b:BM nb g kv d k0 h0 l){k:α}(hk:k∈nb k0):BM nb g (visit h0 kv k) d k0 h0 (l ++ [k]):=by
 unfold Z.visit
 by_cases e:k∈kv.map (·.1)
 ·rw [if_pos e]
  refine⟨b.fst,b.nd,b.at_,b.par,b.JW,fun k' hk'=> ?_,b.asc,b.top⟩
  rcases bP.mp hk' with z | z
  ·exact b.now k' z
  ·rcases aN.mp z with rfl
   obtain⟨⟨k1,h1⟩,h2,rfl⟩:=bh.mp e
   exact⟨h1,h2,b.top _ _ h2⟩
 ·rw [if_neg e]
  have up: ∀{i:Nat} {x:α×Int},kv[i]? =some x->(kv ++ [(k,h0+1)])[i]? =some x:=fun{i x} z=>by rw [fG (aI.mp z).1]; exact z
  have cs: ∀{i:Nat} {x:α×Int},(kv ++ [(k,h0+1)])[i]? =some x->kv[i]? =some x\/(i=kv.length/\x=(k,h0+1)):=fun{i x} z=>by
   rcases IX i kv.length with y | y | y
   ·rw [fG y]at z; exact .inl z
   ·subst y; rw [fv (ay _),kY]at z; exact .inr ⟨rfl,by cases z; rfl⟩
   ·rw [bt (by rw [ao,fz]; omega)]at z; cases z
  have hd:=(aI.mp b.at_).1
  refine⟨up b.fst, ?_,up b.at_,fun j k1 h1 z hj=> ?_,fun i k1 h1 hi z k' hk'=> ?_,fun k' hk'=> ?_,fun i j k1 h1 k2 h2 hij z1 z2=> ?_,fun k' h' z=> ?_⟩
  ·rw [bC,jE]
   refine⟨b.nd,by simp,fun x hx y hy=> ?_⟩
   rcases aN.mp hy with rfl
   rintro rfl
   exact e hx
  ·rcases cs z with z | ⟨rfl,q⟩
   ·obtain⟨i,k',h',a1,a2,a3,a4⟩:=b.par j k1 h1 z hj
    exact⟨i,k',h',a1,a2,up a3,a4⟩
   ·cases q
    exact⟨d,k0,h0,hd,by omega,up b.at_,hk,rfl⟩
  ·rcases cs z with z | ⟨rfl,z⟩
   ·obtain⟨h',a1,a2⟩:=b.JW i k1 h1 hi z k' hk'
    exact⟨h',dO _ a1,a2⟩
   ·omega
  ·rcases bP.mp hk' with z | z
   ·obtain⟨h',a1,a2⟩:=b.now k' z
    exact⟨h',dO _ a1,a2⟩
   ·rcases aN.mp z with rfl
    exact⟨h0+1,by simp,E9 _⟩
  ·rcases cs z1 with z1 | ⟨rfl,q1⟩
   ·rcases cs z2 with z2 | ⟨rfl,q⟩
    ·exact b.asc i j k1 h1 k2 h2 hij z1 z2
    ·cases q
     exact b.top _ _ (bg z1)
   ·rcases cs z2 with z2 | ⟨hq,q2⟩
    ·have:=(aI.mp z2).1
     omega
    ·cases q1; cases q2; exact E9 _
  ·rcases bP.mp z with z | z
   ·exact b.top k' h' z
   ·cases aN.mp z
    exact E9 _
theorem BM.all{d:Nat}{k0:α}{h0:Int}: ∀(m l:List α) {kv:List (α×Int)},BM nb g kv d k0 h0 l->(∀k∈m,k∈nb k0)->BM nb g (m.foldl (Z.visit h0) kv) d k0 h0 (l ++ m)
 | [],l,kv,b,_=>by rw [bq]; exact b
 | k::m,l,kv,b,hm=>by
  have:=BM.all m (l ++ [k]) (b.visit (hm k (.head _))) fun x hx=>hm x (.tail _ hx)
  rw [aV]at this
  exact this
theorem BI.mid{kv:List (α×Int)}{d:Nat}{k0:α}{h0:Int}(b:BI nb g kv d)(e:kv[d]? =some (k0,h0)):BM nb g kv d k0 h0 []:=
 ⟨b.fst,b.nd,e,fun j k h z hj=>let⟨i,k',h',a1,a2,a3⟩:=b.par j k h z hj; ⟨i,k',h',a1,by omega,a3⟩,b.JW,fun k' hk'=>(by cases hk'),b.asc,fun k' h' z=>b.top d k0 h0 k' h' (ay _) e z⟩
theorem BM.next{kv:List (α×Int)}{d:Nat}{k0:α}{h0:Int}(b:BM nb g kv d k0 h0 (nb k0)):BI nb g kv (d+1):=by
 refine⟨b.fst,b.nd,b.par,fun i k h hi z k' hk'=> ?_,b.asc,fun i k h k' h' hi z1 z2=> ?_⟩
 ·by_cases hid:i=d
  ·subst hid
   rw [b.at_]at z
   cases z
   exact b.now k' hk'
  ·exact b.JW i k h (by omega) z k' hk'
 ·have h1:=b.top k' h' z2
  have h2:=b.asc d i _ _ _ _ (by omega) b.at_ z1
  omega
theorem BI.step{kv:List (α×Int)}{d:Nat}(b:BI nb g kv d)(hd:d < kv.length):BI nb g (pI nb kv d) (d+1):=by
 have e:kv[d]? =some (kv[d].1,kv[d].2):=ah hd
 unfold pI
 rw [e]
 have:=BM.all (nb kv[d].1) [] (b.mid e) fun k hk=>hk
 exact BM.next this
theorem CV(h:Int)(kv:List (α×Int))(k:α):kv <+:visit h kv k:=by
 unfold visit
 split
 ·exact KI _
 ·exact List.prefix_append _ _
theorem p8(h:Int): ∀(m:List α) (kv:List (α×Int)),kv <+:m.foldl (visit h) kv
 | [],kv=>KI _
 | k::m,kv=>(CV h kv k).trans (p8 h m _)
theorem wV(kv:List (α×Int))(d:Nat):kv <+:pI nb kv d:=by
 unfold pI
 split
 ·exact p8 _ _ _
 ·exact KI _
theorem pX{P:α->Prop}(h:Int): ∀(m:List α) (kv:List (α×Int)),(∀x∈kv,P x.1)->(∀k∈m,P k)-> ∀x∈m.foldl (visit h) kv,P x.1
 | [],kv,hk,_=>hk
 | k::m,kv,hk,hm=>by
  refine pX h m _ ?_ fun x hx=>hm x (.tail _ hx)
  unfold visit
  split
  ·exact hk
  ·intro x hx
   rcases bP.mp hx with hx | hx
   ·exact hk x hx
   ·rcases aN.mp hx with rfl
    exact hm k (.head _)
theorem wN{P:α->Prop}{kv:List (α×Int)}{d:Nat}(hc: ∀k,P k-> ∀k'∈nb k,P k')(hk: ∀x∈kv,P x.1): ∀x∈pI nb kv d,P x.1:=by
 unfold pI
 split
 ·rename_i k h e
  exact pX h _ kv hk fun k' hk'=>hc k (hk _ (bg e)) k' hk'
 ·exact hk
theorem Bc{β:Type} [DecidableEq β]: ∀{l m:List β},l.Nodup->(∀x∈l,x∈m)->l.length<=m.length
 | [],m,_,_=>bN _
 | x::l,m,hn,hs=>by
  have hx:=hs x (.head _)
  have:=Bc (l:=l) (m:=m.erase x) (eZ.mp hn).2 fun y hy=>(List.mem_erase_of_ne fun z:y=x=>(eZ.mp hn).1 (z▸hy)).mpr (hs y (.tail _ hy))
  rw [List.length_erase_of_mem hx]at this
  have h0:=List.length_pos_of_mem hx
  rw [aL]
  omega
theorem B9{P:α->Prop}{N:Nat}(hc: ∀k,P k-> ∀k'∈nb k,P k')(hN: ∀kv:List (α×Int),(kv.map (·.1)).Nodup->(∀x∈kv,P x.1)->kv.length<=N):
  ∀(n:Nat) (kv:List (α×Int)) (d:Nat),BI nb g kv d->(∀x∈kv,P x.1)->d<=kv.length->N<=n+d-> ∃d',BI nb g (Ja nb n kv d) d'/\(∀x∈Ja nb n kv d,P x.1)/\(Ja nb n kv d).length<=d'
 | 0,kv,d,b,hp,hd,hn=>⟨d,b,hp,by have:=hN kv b.nd hp; show kv.length<=d; omega⟩
 | n+1,kv,d,b,hp,hd,hn=>by
  unfold Ja
  by_cases h:d < kv.length
  ·rw [if_pos h]
   have:=(wV (nb:=nb) kv d).length_le
   exact B9 hc hN n _ (d+1) (b.step h) (wN hc hp) (by omega) (by omega)
  ·rw [if_neg h]
   exact⟨d,b,hp,by omega⟩
structure BE(nb:α->List α)(g:α)(kv:List (α×Int)):Prop where
 nd:(kv.map (·.1)).Nodup
 goal:(g,0)∈kv
 JW: ∀k h,(k,h)∈kv-> ∀k'∈nb k, ∃h',(k',h')∈kv/\h'<=h+1
 par: ∀k h,(k,h)∈kv->(k=g/\h=0)\/ ∃k' h',(k',h')∈kv/\k∈nb k'/\h=h'+1
 nn: ∀k h,(k,h)∈kv->0<=h
theorem BI.fin{kv:List (α×Int)}{d:Nat}(b:BI nb g kv d)(hd:kv.length<=d):BE nb g kv:=by
 refine⟨b.nd,bg b.fst,fun k h hk=> ?_,fun k h hk=> ?_,fun k h hk=> ?_⟩
 ·obtain⟨i,hi,e⟩:=aW.mp hk
  exact b.JW i k h (by omega) (by rw [ah hi,e])
 ·obtain⟨i,hi,e⟩:=aW.mp hk
  rcases mf i with rfl | z
  ·have:=b.fst
   rw [ah hi,e]at this
   cases this
   exact .inl ⟨rfl,rfl⟩
  ·obtain⟨j,k',h',_,_,a3,a4,a5⟩:=b.par i k h (by rw [ah hi,e]) z
   exact .inr ⟨k',h',bg a3,a4,a5⟩
 ·obtain⟨i,hi,e⟩:=aW.mp hk
  exact b.asc 0 i g 0 k h (bN _) b.fst (by rw [ah hi,e])
theorem BE.uniq{kv:List (α×Int)}(b:BE nb g kv){k:α}{h h':Int}(h1:(k,h)∈kv)(h2:(k,h')∈kv):h=h':=by
 obtain⟨i,hi,e1⟩:=aW.mp h1
 obtain⟨j,hj,e2⟩:=aW.mp h2
 have:i=j:=by
  refine(iE (xs:=kv.map (·.1)) (h₀:=by rw [ae]; exact hi) (h₁:=by rw [ae]; exact hj) b.nd).mp ?_
  rw [bp,bp,e1,e2]
 subst this
 rw [e1]at e2
 cases e2
 rfl
end
section
variable {β:Type}
def words(l:List β):Nat->List (List β)
 | 0=> [[]]
 | n+1=>l.flatMap fun x=>(words l n).map (x:: ·)
theorem rH{l:List β}: ∀{n:Nat} {w:List β},w.length=n->(∀x∈w,x∈l)->w∈words l n
 | 0, [],_,_=> .head _
 | n+1,x::w,hl,hx=>by
  unfold words
  refine KH.mpr ⟨x,hx x (.head _),bh.mpr ⟨w,rH (by simpa using hl) fun y hy=>hx y (.tail _ hy),rfl⟩⟩
theorem rp(l:List β): ∀n:Nat,(words l n).length=l.length ^ n
 | 0=>rfl
 | n+1=>by
  unfold words
  rw [List.length_flatMap]
  have:(l.map fun x=>((words l n).map (x:: ·)).length)=l.map fun _=>l.length ^ n:=Ff fun x _=>by rw [ae,rp l n]
  rw [this,List.map_const',List.sum_replicate_nat,Nat.pow_succ,Nat.mul_comm]
end
theorem BU: ∀{a b:List (List Int)},a.flatten=b.flatten->a.map mT=b.map mT->a=b
 | [], [],_,_=>rfl
 | [],_::_,_,h=>by simp at h
 | _::_, [],_,h=>by simp at h
 | x::a,y::b,h1,h2=>by
  rw [bx,bx]at h2
  injection h2 with e1 e2
  rw [cJ,cJ]at h1
  obtain⟨e3,e4⟩:=List.append_inj h1 e1
  rw [e3,BU e4 e2]
theorem si{r:List Int}: ∀{a:List (List Int)},r∈a->r.length<=a.flatten.length
 | x::a,h=>by
  rw [cJ,ao]
  rcases aO.mp h with rfl | h
  ·omega
  ·have:=si h
   omega
def Of(c:List Int)(m:Nat)(k:List (List Int)):Prop:=k.flatten.Perm c/\k.length=m
theorem LM{c:List Int}{m:Nat}(hc:c.length<=4)(hm:m<=4){kv:List (List (List Int)×Int)}(nd:(kv.map (·.1)).Nodup)(h: ∀x∈kv,Of c m x.1):kv.length<=160000:=by
 have e:(kv.map (·.1)).length=kv.length:=ae _
 have nd2:((kv.map (·.1)).map fun k=>(k.flatten,k.map mT)).Nodup:=by
  refine List.Pairwise.map _ (fun a b hab z=>hab ?_) nd
  exact BU (sW.mp z).1 (sW.mp z).2
 have sub: ∀x∈(kv.map (·.1)).map (fun k=>(k.flatten,k.map mT)),x∈(words c c.length).flatMap fun u=>(words (bH (c.length+1)) m).map fun v=>(u,v):=fun x hx=>by
  obtain⟨k,hk,rfl⟩:=bh.mp hx
  obtain⟨p,hp,rfl⟩:=bh.mp hk
  obtain⟨h1,h2⟩:=h p hp
  refine KH.mpr ⟨_,rH h1.length_eq fun y hy=>h1.mem_iff.mp hy,bh.mpr ⟨_,rH (by rw [ae]; exact h2) fun y hy=> ?_,rfl⟩⟩
  obtain⟨r,hr,rfl⟩:=bh.mp hy
  have:=si hr
  rw [h1.length_eq]at this
  exact gw.mpr (by omega)
 have:=Bc nd2 sub
 rw [ae,e,List.length_flatMap]at this
 have q:((words c c.length).map fun u=>((words (bH (c.length+1)) m).map fun v=>(u,v)).length)=(words c c.length).map fun _=>(c.length+1) ^ m:=Ff fun x _=>by rw [ae,rp,cg]
 rw [q,List.map_const',List.sum_replicate_nat,rp]at this
 refine bE this ?_
 generalize c.length=n at hc
 have a1:n=0\/n=1\/n=2\/n=3\/n=4:=by omega
 have a2:m=0\/m=1\/m=2\/m=3\/m=4:=by omega
 clear this h nd nd2 sub e q hm
 rcases a1 with rfl | rfl | rfl | rfl | rfl <;> rcases a2 with rfl | rfl | rfl | rfl | rfl <;> decide
end Z
namespace Z
open PySem PySem.Spec PyProof.Rows L2
theorem JP.exact{X:Cx}{ρ:fm}{e:Expr}{R:D->Prop}{d:D}(h:JP X ρ e R)(u: ∀d',R d'->d'=d):aw X ρ e d:=fun M0 H0 γ α σ H Q r k=>h M0 H0 γ α σ H Q r fun d' v H' q s x=>k v H' s (u d' q▸x)
end Z
namespace Z
theorem sL{α:Type _}: ∀(us:List α),us.length=1-> ∃a,us= [a]
 | [a],_=>⟨a,rfl⟩
theorem sD{α:Type _}: ∀(us:List α),us.length=2-> ∃a b,us= [a,b]
 | [a,b],_=>⟨a,b,rfl⟩
theorem yX{α:Type _}: ∀(us:List α),us.length=3-> ∃a b c,us= [a,b,c]
 | [a,b,c],_=>⟨a,b,c,rfl⟩
theorem Om{α:Type _}: ∀(us:List α),us.length=4-> ∃a b c d,us= [a,b,c,d]
 | [a,b,c,d],_=>⟨a,b,c,d,rfl⟩
theorem Ou{α:Type _}: ∀(us:List α),us.length=5-> ∃a b c d e,us= [a,b,c,d,e]
 | [a,b,c,d,e],_=>⟨a,b,c,d,e,rfl⟩
end Z
namespace Z
open PySem L2 PyProof.Rows
end Z
namespace Z
open PySem PySem.Spec PyProof.Rows L2
theorem oK{H H1:Hp}{l:Addr}(s:bT H H1):bT (e7 H l) (e7 H1 l):=fun b o e=>by
 unfold e7 at e ⊢
 split at e
 ·cases e
 ·rename_i h
  rw [if_neg h]
  exact s b o e
theorem kr{H:Hp}{l b:Addr}{o:HO}(h:b≠l)(e:H b=some o):e7 H l b=some o:=by unfold e7; rw [if_neg h]; exact e
end Z
namespace Z
open PySem PySem.Spec PyProof.Rows
end Z
namespace Z
open PySem PySem.Spec PyProof.Rows L2
end Z
namespace Z
open PySem PySem.Spec PySem.W PyProof.Rows
abbrev Kd:=PyProof.Rows.Keyed
structure oo(S:Kd->Prop)(lt:Kd->Kd->Bool):Prop where
 wd: ∀x y,S x->S y->x≠y->lt x y=false->lt y x=true
 Hz: ∀x y,lt x y=true->lt y x=false
 tr: ∀x y z,lt x y=true->lt y z=true->lt x z=true
def ue(prog:aq)(w:World)(A:bA)(s:ai)(κ:kj)(S:Kd->Prop)(lt:Kd->Kd->Bool):Prop:=
 ∀(x y:Kd) (Q:Bool->ai->Prop),S x->S y->Q (lt x y) s->wpAny (model prog w) A (keyLt' κ x.1 y.1) Q (fun _ _=>False) s
def J8:Bool->Kd->Array Kd->Nat->Nat->Nat->StateT cv Sem (Option Nat):=sortPriv% PySem.Builtin.gallop
section
variable {prog:aq}{w:World}{A:bA}{E:Value->ai->Prop}{s:ai}{κ:kj}{S:Kd->Prop}{lt:Kd->Kd->Bool}{st:cv}
theorem ug{x y:Kd}{Q:Option Bool->cv->Prop}(c:ue prog w A s κ S lt)(hk:kindOf st=κ)(hx:S x)(hy:S y)(h:Q (some (lt x y)) st):wpS (model prog w) A E s (lt' x y) Q st:=by
 rw [lt'_eq]
 refine aG (oH ?_)
 rw [hk]
 refine aG (sY (nI (bW (c x y (fun b s'=>b=lt x y/\s'=s) hx hy ⟨rfl,rfl⟩) ?_ fun _ _ z=>z.elim)))
 rintro b s' ⟨rfl,rfl⟩
 exact⟨rfl,aM h⟩
theorem cY{arr:Array Kd}{i:Nat}{x:Kd}{Q:Kd->cv->Prop}(hi:arr[i]? =some x)(h:Q x st):wpS (model prog w) A E s (elem' arr i) Q st:=by
 rw [elem'_eq,hi]
 exact aM h
theorem Ji{left:Bool}{key:Kd}{arr:Array Kd}{i:Nat}{x:Kd}{Q:Option Bool->cv->Prop}(o:oo S lt)(c:ue prog w A s κ S lt)(hk:kindOf st=κ)(hi:arr[i]? =some x)(hx:S x)(hy:S key)(hne:x≠key)(h:Q (some (lt x key)) st):
  wpS (model prog w) A E s (do let x<-elem' arr i; if left=true then lt' x key else do let r<-lt' key x; pure (r.map (!·))) Q st:=by
 refine aG (cY hi ?_)
 cases left with
 | true=>exact ug c hk hx hy h
 | false=>
  refine aG (ug c hk hy hx (aM ?_))
  have:(!lt key x)=lt x key:=by
   cases e:lt x key with
   | true=>rw [o.Hz _ _ e]; rfl
   | false=>rw [o.wd _ _ hx hy hne e]; rfl
  show Q (some (!lt key x)) st
  rw [this]
  exact h
theorem tP{n lo hi:Nat}{p:Nat->Bool}{ω:Type}{f:Nat->Option ω×Nat×Nat->StateT cv Sem (ForInStep (Option ω×Nat×Nat))}{Q:Option ω×Nat×Nat->cv->Prop}
  (hf: ∀x lo hi (Q':ForInStep (Option ω×Nat×Nat)->cv->Prop),hi<=n->(hi<=lo->Q' (.done (none,lo,hi)) st)->(lo < hi->p (lo+(hi - lo) / 2)=true->Q' (.yield (none,lo+(hi - lo) / 2+1,hi)) st)->(lo < hi->p (lo+(hi - lo) / 2)=false->Q' (.yield (none,lo,lo+(hi - lo) / 2)) st)->wpS (model prog w) A E s (f x (none,lo,hi)) Q' st)
  (hp: ∀i j,i<=j->j < n->p j=true->p i=true)(h1:lo<=hi)(h2:hi<=n)(h3: ∀i,i < lo->p i=true)(h4: ∀i,hi<=i->i < n->p i=false)
  (h: ∀k,k<=n->(∀i,i < k->p i=true)->(∀i,k<=i->i < n->p i=false)->Q (none,k,k) st):wpS (model prog w) A E s (forIn [0:n] (none,lo,hi) f) Q st:=by
 have dn: ∀i j,i<=j->j < n->p i=false->p j=false:=fun i j hij hj e=>by
  cases e2:p j with
  | false=>rfl
  | true=>rw [hp i j hij hj e2]at e; cases e
 refine dJ (I:=fun x c st'=>st'=st/\ ∃lo hi,c=(none,lo,hi)/\lo<=hi/\hi<=n/\hi - lo<=n - x/\(∀i,i < lo->p i=true)/\(∀i,hi<=i->i < n->p i=false)) ?_ ?_ ⟨rfl,lo,hi,rfl,h1,h2,by omega,h3,h4⟩
 ·rintro x c st' _ hx ⟨rfl,lo,hi,rfl,h1,h2,h5,h3,h4⟩
  refine hf x lo hi _ h2 (fun e=> ?_) (fun e q=>⟨rfl,_,_,rfl,by omega,h2,by omega,fun i hi'=>hp i _ (by omega) (by omega) q,h4⟩) fun e q=>⟨rfl,_,_,rfl,by omega,by omega,by omega,h3,fun i hi' hn=>dn _ i hi' hn q⟩
  have:lo=hi:=by omega
  subst this
  exact h lo h2 h3 h4
 ·rintro c st' ⟨rfl,lo,hi,rfl,h1,h2,h5,h3,h4⟩
  have:lo=hi:=by omega
  subst this
  exact h lo h2 h3 h4
set_option maxHeartbeats 1000000 in
theorem jw{left:Bool}{key:Kd}{arr:Array Kd}{base n hint:Nat}{g:Nat->Kd}{Q:Option Nat->cv->Prop}(o:oo S lt)(c:ue prog w A s κ S lt)(hk:kindOf st=κ)
  (hg: ∀i,i < n->arr[base+i]? =some (g i))(hS: ∀i,i < n->S (g i))(hne: ∀i,i < n->g i≠key)(hy:S key)(hm: ∀i j,i < j->j < n->lt (g i) (g j)=true)(hh:hint < n)
  (h: ∀k,k<=n->(∀i,i < k->lt (g i) key=true)->(∀i,k<=i->i < n->lt (g i) key=false)->Q (some k) st):wpS (model prog w) A E s (J8 left key arr base n hint) Q st:=by
 have far: ∀i,i < n-> ∀Q':Option Bool->cv->Prop,Q' (some (lt (g i) key)) st->wpS (model prog w) A E s (do let x<-elem' arr (base+i); if left=true then lt' x key else do let r<-lt' key x; pure (r.map (!·))) Q' st:=fun i hi Q' hq=>Ji o c hk (hg i hi) (hS i hi) hy (hne i hi) hq
 have up: ∀i j,i<=j->j < n->lt (g j) key=true->lt (g i) key=true:=fun i j hij hj e=>by
  rcases Nat.lt_or_eq_of_le hij with z | rfl
  ·exact o.tr _ _ _ (hm i j z hj) e
  ·exact e
 have dn: ∀i j,i<=j->j < n->lt (g i) key=false->lt (g j) key=false:=fun i j hij hj e=>by
  cases e2:lt (g j) key with
  | false=>rfl
  | true=>rw [up i j hij hj e2]at e; cases e
 refine aG (far hint hh _ ?_)
 cases eh:lt (g hint) key with
 | true=>
  dsimp only
  rw [if_pos rfl]
  refine aG (e_ (dJ (I:=fun x c st'=>st'=st/\ ∃la ofs,c=(none,la,ofs)/\la < ofs/\x+1<=ofs/\hint+la < n/\lt (g (hint+la)) key=true)
   (Q:=fun c st'=>st'=st/\ ∃la ofs,c=(none,la,ofs)/\la < ofs/\hint+la < n/\lt (g (hint+la)) key=true/\(n - hint<=ofs\/(hint+ofs < n/\lt (g (hint+ofs)) key=false))) ?_ ?_ ⟨rfl,0,1,rfl,by omega,by omega,by omega,eh⟩) ?_)
  ·rintro x c st' _ hx ⟨rfl,la,ofs,rfl,l1,l2,l3,l4⟩
   dsimp only
   by_cases z:ofs>=n - hint
   ·rw [if_pos z]
    exact aM ⟨rfl,la,ofs,rfl,l1,l3,l4, .inl z⟩
   ·rw [if_neg z]
    refine aG (far (hint+ofs) (by omega) _ ?_)
    cases em:lt (g (hint+ofs)) key with
    | true=>exact aM ⟨rfl,ofs,2 * ofs+1,rfl,by omega,by omega,by omega,em⟩
    | false=>exact aM ⟨rfl,la,ofs,rfl,l1,l3,l4, .inr ⟨by omega,em⟩⟩
  ·rintro c st' ⟨rfl,la,ofs,rfl,l1,l2,l3,l4⟩
   exact⟨rfl,la,ofs,rfl,l1,l3,l4, .inl (by omega)⟩
  ·rintro c st' ⟨rfl,la,ofs,rfl,l1,l3,l4,l5⟩
   dsimp only
   refine aG (tP (p:=fun i=>lt (g i) key) (fun x lo hi Q' hn k1 k2 k3=> ?_) up (by omega) (by omega) (fun i hi=>up i _ (by omega) l3 l4) (fun i hi hn=> ?_) fun k hk h1 h2=>aM (h k hk h1 h2))
   ·dsimp only
    by_cases z:lo>=hi
    ·rw [if_pos z]
     exact aM (k1 z)
    ·rw [if_neg z]
     refine aG (far (lo+(hi - lo) / 2) (by omega) _ ?_)
     cases em:lt (g (lo+(hi - lo) / 2)) key with
     | true=>exact aM (k2 (by omega) em)
     | false=>exact aM (k3 (by omega) em)
   ·rcases l5 with l5 | ⟨l5,l6⟩
    ·omega
    ·exact dn (hint+ofs) i (by omega) hn l6
 | false=>
  dsimp only
  rw [if_neg (by simp)]
  refine aG (e_ (dJ (I:=fun x c st'=>st'=st/\ ∃la ofs,c=(none,la,ofs)/\la < ofs/\x+1<=ofs/\la<=hint/\lt (g (hint - la)) key=false)
   (Q:=fun c st'=>st'=st/\ ∃la ofs,c=(none,la,ofs)/\la < ofs/\la<=hint/\lt (g (hint - la)) key=false/\(hint+1<=ofs\/(ofs<=hint/\lt (g (hint - ofs)) key=true))) ?_ ?_ ⟨rfl,0,1,rfl,by omega,by omega,by omega,eh⟩) ?_)
  ·rintro x c st' _ hx ⟨rfl,la,ofs,rfl,l1,l2,l3,l4⟩
   dsimp only
   by_cases z:ofs>=hint+1
   ·rw [if_pos z]
    exact aM ⟨rfl,la,ofs,rfl,l1,l3,l4, .inl z⟩
   ·rw [if_neg z]
    refine aG (far (hint - ofs) (by omega) _ ?_)
    cases em:lt (g (hint - ofs)) key with
    | true=>exact aM ⟨rfl,la,ofs,rfl,l1,l3,l4, .inr ⟨by omega,em⟩⟩
    | false=>exact aM ⟨rfl,ofs,2 * ofs+1,rfl,by omega,by omega,by omega,em⟩
  ·rintro c st' ⟨rfl,la,ofs,rfl,l1,l2,l3,l4⟩
   exact⟨rfl,la,ofs,rfl,l1,l3,l4, .inl (by omega)⟩
  ·rintro c st' ⟨rfl,la,ofs,rfl,l1,l3,l4,l5⟩
   dsimp only
   refine aG (tP (p:=fun i=>lt (g i) key) (fun x lo hi Q' hn k1 k2 k3=> ?_) up (by omega) (by omega) (fun i hi=> ?_) (fun i hi hn=>dn (hint - la) i hi hn l4) fun k hk h1 h2=>aM (h k hk h1 h2))
   ·dsimp only
    by_cases z:lo>=hi
    ·rw [if_pos z]
     exact aM (k1 z)
    ·rw [if_neg z]
     refine aG (far (lo+(hi - lo) / 2) (by omega) _ ?_)
     cases em:lt (g (lo+(hi - lo) / 2)) key with
     | true=>exact aM (k2 (by omega) em)
     | false=>exact aM (k3 (by omega) em)
   ·rcases l5 with l5 | ⟨l5,l6⟩
    ·omega
    ·exact up i (hint - ofs) (by omega) (by omega) l6
end
abbrev mD(lt:Kd->Kd->Bool)(l:List Kd):Prop:=l.Pairwise fun x y=>lt x y=true
structure i6(lt:Kd->Kd->Bool)(a b out:List Kd)(ia ib:Nat):Prop where
 ha:ia<=a.length
 hb:ib<=b.length
 perm:out.Perm (a.take ia ++ b.take ib)
 n9:mD lt out
 lo: ∀x∈out, ∀y,(y∈a.drop ia\/y∈b.drop ib)->lt x y=true
section
variable {lt:Kd->Kd->Bool}{a b out:List Kd}{ia ib k:Nat}
theorem i6.swap(m:i6 lt a b out ia ib):i6 lt b a out ib ia:=⟨m.hb,m.ha,m.perm.trans cT,m.n9,fun x hx y hy=>m.lo x hx y hy.symm⟩
theorem HH(a:List Kd)(i k:Nat):a.drop i=(a.drop i).take k ++ a.drop (i+k):=by
 rw [<-List.drop_drop,bb]
theorem i6.pushA(m:i6 lt a b out ia ib)(hk:ia+k<=a.length)(sa:mD lt a)(h: ∀x∈(a.drop ia).take k, ∀y∈b.drop ib,lt x y=true):i6 lt a b (out ++ (a.drop ia).take k) (ia+k) ib:=by
 have sd:mD lt (a.drop ia):=dq (mW ia a) sa
 have cut:=HH a ia k
 have sd':=sd
 rw [cut]at sd'
 have c:=bX.mp sd'
 refine⟨hk,m.hb, ?_,bX.mpr ⟨m.n9,c.1,fun x hx y hy=>m.lo x hx y (.inl (ip hy))⟩,fun x hx y hy=> ?_⟩
 ·have e:a.take (ia+k)=a.take ia ++ (a.drop ia).take k:=List.take_add
  rw [e]
  refine(m.perm.append_right _).trans ?_
  rw [aV,aV]
  exact eK _ cT
 ·rcases bP.mp hx with hx | hx
  ·exact m.lo x hx y (hy.imp (fun z=>by rw [cut]; exact ba _ z) id)
  ·rcases hy with hy | hy
   ·exact c.2.2 x hx y hy
   ·exact h x hx y hy
theorem i6.pushB(m:i6 lt a b out ia ib)(hk:ib+k<=b.length)(sb:mD lt b)(h: ∀x∈(b.drop ib).take k, ∀y∈a.drop ia,lt x y=true):i6 lt a b (out ++ (b.drop ib).take k) ia (ib+k):=(m.swap.pushA hk sb h).swap
theorem take_one{x:Kd}{i:Nat}(h:a[i]? =some x):(a.drop i).take 1= [x]:=by
 obtain⟨hi,e⟩:=aI.mp h
 rw [mM hi,e]
 rfl
theorem above{S:Kd->Prop}(o:oo S lt)(sa:mD lt a){x y z:Kd}{i:Nat}(h:a[i]? =some x)(hz:lt z x=true)(hy:y∈a.drop i):lt z y=true:=by
 obtain⟨hi,e⟩:=aI.mp h
 have sd:mD lt (a.drop i):=dq (mW i a) sa
 rw [mM hi,e]at hy sd
 rcases aO.mp hy with rfl | hy
 ·exact hz
 ·exact o.tr _ _ _ hz ((cu.mp sd).1 y hy)
theorem i6.finB(m:i6 lt a b out ia ib)(sa:mD lt a)(sb:mD lt b)(h: ∀x∈b.drop ib, ∀y∈a.drop ia,lt x y=true):(out ++ b.drop ib ++ a.drop ia).Perm (a ++ b)/\mD lt (out ++ b.drop ib ++ a.drop ia):=by
 constructor
 ·have e1:(a ++ b).Perm ((a.take ia ++ a.drop ia) ++ (b.take ib ++ b.drop ib)):=by rw [bb,bb]
  refine gU ?_ e1.symm
  rw [aV]
  refine(m.perm.append_right _).trans ?_
  rw [aV,aV]
  refine eK _ ?_
  rw [<-aV]
  exact cT
 ·refine bX.mpr ⟨bX.mpr ⟨m.n9,dq (mW ib b) sb,fun x hx y hy=>m.lo x hx y (.inr hy)⟩,dq (mW ia a) sa,fun x hx y hy=> ?_⟩
  rcases bP.mp hx with hx | hx
  ·exact m.lo x hx y (.inl hy)
  ·exact h x hx y hy
theorem i6.finA(m:i6 lt a b out ia ib)(sa:mD lt a)(sb:mD lt b)(h: ∀x∈a.drop ia, ∀y∈b.drop ib,lt x y=true):(out ++ a.drop ia ++ b.drop ib).Perm (a ++ b)/\mD lt (out ++ a.drop ia ++ b.drop ib):=
 let⟨p,q⟩:=m.swap.finB sb sa h; ⟨p.trans cT,q⟩
end
def gR(st st':cv):Prop:=kindOf st'=kindOf st/\arrOf st'=arrOf st/\cz st'=cz st/\fO st'=fO st
theorem gR.refl(st:cv):gR st st:=⟨rfl,rfl,rfl,rfl⟩
theorem gR.trans{a b c:cv}(x:gR a b)(y:gR b c):gR a c:=⟨y.1.trans x.1,y.2.1.trans x.2.1,y.2.2.1.trans x.2.2.1,y.2.2.2.trans x.2.2.2⟩
def JG:Nat->StateT cv Sem Unit:=sortPriv% PySem.Builtin.setMinGallop
def Fv:Array Kd->Array Kd->StateT cv Sem (Array Kd):=sortPriv% PySem.Builtin.mergeLo
def GY:Array Kd->Array Kd->StateT cv Sem (Array Kd):=sortPriv% PySem.Builtin.mergeHi
section
variable {prog:aq}{w:World}{A:bA}{E:Value->ai->Prop}{s:ai}{κ:kj}{S:Kd->Prop}{lt:Kd->Kd->Bool}{st:cv}
theorem nh{g:Nat}{Q:Unit->cv->Prop}(h: ∀st',gR st st'->Q () st'):wpS (model prog w) A E s (JG g) Q st:=oI (h _ ⟨rfl,rfl,rfl,rfl⟩)
structure pv(S:Kd->Prop)(lt:Kd->Kd->Bool)(a b:Array Kd):Prop where
 sa:mD lt a.toList
 sb:mD lt b.toList
 Sa: ∀x∈a.toList,S x
 Sb: ∀x∈b.toList,S x
 ne: ∀x∈a.toList, ∀y∈b.toList,x≠y
 na:0 < a.size
 nb:0 < b.size
 fst: ∀x∈a.toList,lt (b[0]'nb) x=true
 lst: ∀x∈b.toList,lt x (a[a.size - 1]'(by omega))=true
theorem cw{α:Type}{c:Prop}{dc:Decidable c}{m1 m2:StateT cv Sem α}{Q:α->cv->Prop}(h1:c->wpS (model prog w) A E s m1 Q st)(h2: ¬c->wpS (model prog w) A E s m2 Q st):wpS (model prog w) A E s (if c then m1 else m2) Q st:=by
 by_cases e:c
 ·rw [if_pos e]; exact h1 e
 ·rw [if_neg e]; exact h2 e
theorem yf(a:Array Kd)(i k:Nat):(a.extract i (i+k)).toList=(a.toList.drop i).take k:=by
 rw [kh,mO,jl]
theorem tx(a:Array Kd)(i:Nat):(a.extract i).toList=a.toList.drop i:=by
 rw [kh,mO,dY]
 rw [bI,aj]
 omega
def Res(lt:Kd->Kd->Bool)(a b r:Array Kd):Prop:=r.toList.Perm (a.toList ++ b.toList)/\mD lt r.toList
theorem pv.ga{a b:Array Kd}(t:pv S lt a b){i:Nat}(h:i < a.size):S a[i]:=t.Sa _ (by simp)
theorem pv.gb{a b:Array Kd}(t:pv S lt a b){i:Nat}(h:i < b.size):S b[i]:=t.Sb _ (by simp)
theorem at_(a:Array Kd){i:Nat}(h:i < a.size):a[i]? =some a[i]:=by simp [h]
theorem Jw(a:Array Kd){i:Nat}(h:i < a.size):a.toList[i]? =some a[i]:=by simp [h]
theorem pv.nab{a b:Array Kd}(t:pv S lt a b){i j:Nat}(h:i < a.size)(h':j < b.size):a[i]≠b[j]:=t.ne _ (by simp) _ (by simp)
theorem pv.upA{a b:Array Kd}(t:pv S lt a b){i j:Nat}(h:i < j)(h':j < a.size):lt a[i] a[j]=true:=by
 have:=cM.mp t.sa i j (by rw [aj]; omega) (by rw [aj]; omega) h
 simpa using this
theorem pv.upB{a b:Array Kd}(t:pv S lt a b){i j:Nat}(h:i < j)(h':j < b.size):lt b[i] b[j]=true:=by
 have:=cM.mp t.sb i j (by rw [aj]; omega) (by rw [aj]; omega) h
 simpa using this
theorem mq{a:Array Kd}{i:Nat}{y:Kd}(h:y∈a.toList.drop i): ∃j,i<=j/\ ∃hj:j < a.size,y=a[j]:=by
 obtain⟨k,hk,e⟩:=aW.mp h
 rw [bI,aj]at hk
 refine⟨i+k,by omega,by omega, ?_⟩
 rw [<-e,d_]
 simp
theorem Cs{a:Array Kd}{i k:Nat}{y:Kd}(h:y∈(a.toList.drop i).take k): ∃j,i<=j/\j < i+k/\ ∃hj:j < a.size,y=a[j]:=by
 obtain⟨m,hm,e⟩:=aW.mp h
 rw [bu,bI,aj]at hm
 refine⟨i+m,by omega,by omega,by omega, ?_⟩
 rw [<-e,fP,d_]
 simp
section
variable {a b out:Array Kd}{ia ib:Nat}
theorem pv.doneB(t:pv S lt a b)(m:i6 lt a.toList b.toList out.toList ia ib)(h:b.size<=ib\/a.size<=ia):Res lt a b (out ++ a.extract ia ++ b.extract ib):=by
 have:=m.finA t.sa t.sb fun x hx y hy=>by
  obtain⟨j,h1,h2,_⟩:=mq hx
  obtain⟨j',h1',h2',_⟩:=mq hy
  omega
 unfold Res
 rw [cE,cE,tx,tx]
 exact this
theorem pv.lastA(t:pv S lt a b)(m:i6 lt a.toList b.toList out.toList ia ib)(h:ia+1=a.size):Res lt a b (out ++ b.extract ib ++ a.extract ia):=by
 have:=m.finB t.sa t.sb fun x hx y hy=>by
  obtain⟨j,h1,h2,rfl⟩:=mq hx
  obtain⟨j',h1',h2',rfl⟩:=mq hy
  have:=t.lst b[j] (by simp)
  have e:j'=a.size - 1:=by omega
  subst e
  exact this
 unfold Res
 rw [cE,cE,tx,tx]
 exact this
theorem pv.oneB(o:oo S lt)(t:pv S lt a b)(m:i6 lt a.toList b.toList out.toList ia ib)(hb:ib < b.size)(h: ∀y∈a.toList.drop ia,lt b[ib] y=true):i6 lt a.toList b.toList (out.push b[ib]).toList ia (ib+1):=by
 have:=m.pushB (k:=1) (by rw [aj]; omega) t.sb fun x hx y hy=>by
  rw [take_one (Jw b hb)]at hx
  rcases aN.mp hx with rfl
  exact h y hy
 rw [take_one (Jw b hb)]at this
 rw [jF]
 exact this
theorem pv.oneA(o:oo S lt)(t:pv S lt a b)(m:i6 lt a.toList b.toList out.toList ia ib)(ha:ia < a.size)(h: ∀y∈b.toList.drop ib,lt a[ia] y=true):i6 lt a.toList b.toList (out.push a[ia]).toList (ia+1) ib:=by
 have:=m.pushA (k:=1) (by rw [aj]; omega) t.sa fun x hx y hy=>by
  rw [take_one (Jw a ha)]at hx
  rcases aN.mp hx with rfl
  exact h y hy
 rw [take_one (Jw a ha)]at this
 rw [jF]
 exact this
end
def Oq(lt:Kd->Kd->Bool)(a b:Array Kd)(n:Nat)(c:Option (Array Kd)×Array Kd×Nat×Nat×Nat×Nat×Nat):Prop:=
 ∃out ia ib mg ac bc,c=(none,out,ia,ib,mg,ac,bc)/\i6 lt a.toList b.toList out.toList ia ib/\ib < b.size/\ia+1 < a.size/\n<=ia+ib
def Uv(lt:Kd->Kd->Bool)(a b:Array Kd)(n:Nat)(c:Option (Array Kd)×Array Kd×Nat×Nat×Nat×Nat×Nat):Prop:=
 (∃r rest,c=(some r,rest)/\Res lt a b r)\/Oq lt a b n c
def Ov(lt:Kd->Kd->Bool)(a b:Array Kd)(n:Nat)(L:Prop):ForInStep (Option (Array Kd)×Array Kd×Nat×Nat×Nat×Nat×Nat)->Prop
 | .done c=>L/\Uv lt a b n c
 | .yield c=>L/\Oq lt a b n c
set_option maxHeartbeats 4000000 in
theorem yR{a b:Array Kd}{Q:Array Kd->cv->Prop}(o:oo S lt)(c:ue prog w A s κ S lt)(hk:kindOf st=κ)(t:pv S lt a b)
  (h: ∀(res:Array Kd) (st':cv),gR st st'->Res lt a b res->Q res st'):wpS (model prog w) A E s (Fv a b) Q st:=by
 have na:=t.na
 have nb:=t.nb
 have m0:i6 lt a.toList b.toList (#[b[0]]:Array Kd).toList 0 1:=by
  have:i6 lt a.toList b.toList [] 0 0:=⟨bN _,bN _,dB _,eU,fun x hx=>by cases hx⟩
  exact pv.oneB (out:= #[]) o t this nb t.fst
 refine aG (sY (fw ⟨rfl, ?_⟩))
 refine aG (cY (at_ b nb) ?_)
 refine cw (fun e=> ?_) fun e1=> ?_
 ·have e:(1==b.size)=true:=e
  exact aM (h _ _ (.refl _) (t.doneB m0 (.inl (by have:=beq_iff_eq.mp e; omega))))
 have e1: ¬1=b.size:=fun z=>e1 (beq_iff_eq.mpr z)
 refine cw (fun e=> ?_) fun e2=> ?_
 ·have e:(0+1==a.size)=true:=e
  exact aM (h _ _ (.refl _) (t.lastA m0 (by have:=beq_iff_eq.mp e; omega)))
 have e2: ¬0+1=a.size:=fun z=>e2 (beq_iff_eq.mpr z)
 refine aG (oH ?_)
 refine aG (e_ (dJ (I:=fun x c st'=>gR st st'/\ ∃out ia ib mg,c=(none,out,ia,ib,mg)/\i6 lt a.toList b.toList out.toList ia ib/\ib < b.size/\ia+1 < a.size/\x+1<=ia+ib)
   (Q:=fun c st'=> ∃r rest,c=(some r,rest)/\gR st st'/\Res lt a b r) ?_ ?_ ⟨.refl _,_,0,1,_,rfl,m0,by omega,by omega,by omega⟩) ?_)
 ·rintro x c st1 _ hx ⟨L1,out,ia,ib,mg,rfl,m,hb1,ha1,hp1⟩
  have k1:kindOf st1=κ:=L1.1.trans hk
  refine aG (e_ (dJ (I:=fun y c st'=>st'=st1/\ ∃out' ia' ib' ac bc,c=(none,out',ia',ib',ac,bc)/\i6 lt a.toList b.toList out'.toList ia' ib'/\ib' < b.size/\ia'+1 < a.size/\y+(ia+ib)<=ia'+ib')
   (Q:=fun c st'=>st'=st1/\((∃r rest,c=(some r,rest)/\Res lt a b r)\/ ∃out' ia' ib' ac bc,c=(none,out',ia',ib',ac,bc)/\i6 lt a.toList b.toList out'.toList ia' ib'/\ib' < b.size/\ia'+1 < a.size/\ia+ib+1<=ia'+ib')) ?_ ?_ ⟨rfl,out,ia,ib,_,_,rfl,m,hb1,ha1,by omega⟩) ?_)
  ·rintro y c st' _ hy ⟨rfl,out',ia',ib',ac,bc,rfl,m',hb',ha',hp'⟩
   have ha0:ia' < a.size:=by omega
   refine aG (cY (at_ b hb') ?_)
   refine aG (cY (at_ a ha0) ?_)
   refine aG (ug c k1 (t.gb hb') (t.ga ha0) ?_)
   cases eq:lt b[ib'] a[ia']with
   | true=>
    have m2:=t.oneB o m' hb' fun y hy=>above o t.sa (Jw a ha0) eq hy
    refine aG (cY (at_ b hb') ?_)
    refine cw (fun e=> ?_) fun e=> ?_
    ·have e:(ib'+1==b.size)=true:=e
     exact aM ⟨rfl, .inl ⟨_,_,rfl,t.doneB (ia:=ia') (ib:=ib'+1) m2 (.inl (by have:=beq_iff_eq.mp e; omega))⟩⟩
    ·have e: ¬ib'+1=b.size:=fun z=>e (beq_iff_eq.mpr z)
     refine cw (fun e3=>aM ?_) fun e3=>aM ?_
     ·exact⟨rfl, .inr ⟨_,ia',ib'+1,_,_,rfl,m2,by omega,by omega,by omega⟩⟩
     ·exact⟨rfl,_,ia',ib'+1,_,_,rfl,m2,by omega,by omega,by omega⟩
   | false=>
    have eq2:=o.wd _ _ (t.gb hb') (t.ga ha0) (fun z=>t.nab ha0 hb' z.symm) eq
    have m2:=t.oneA o m' ha0 fun y hy=>above o t.sb (Jw b hb') eq2 hy
    refine aG (cY (at_ a ha0) ?_)
    refine cw (fun e=> ?_) fun e=> ?_
    ·have e:(ia'+1+1==a.size)=true:=e
     exact aM ⟨rfl, .inl ⟨_,_,rfl,t.lastA (ia:=ia'+1) (ib:=ib') m2 (by have:=beq_iff_eq.mp e; omega)⟩⟩
    ·have e: ¬ia'+1+1=a.size:=fun z=>e (beq_iff_eq.mpr z)
     refine cw (fun e3=>aM ?_) fun e3=>aM ?_
     ·exact⟨rfl, .inr ⟨_,ia'+1,ib',_,_,rfl,m2,by omega,by omega,by omega⟩⟩
     ·exact⟨rfl,_,ia'+1,ib',_,_,rfl,m2,by omega,by omega,by omega⟩
  ·rintro c st' ⟨rfl,out',ia',ib',ac,bc,rfl,m',hb',ha',hp'⟩
   exact⟨rfl, .inr ⟨_,ia',ib',_,_,rfl,m',hb',ha',by omega⟩⟩
  ·rintro c st' ⟨rfl,⟨r,rest,rfl,hr⟩ | ⟨out1,ia1,ib1,ac1,bc1,rfl,m1,hb2,ha2,hp2⟩⟩
   ·exact aM ⟨_,_,rfl,L1,hr⟩
   ·refine aG (sY (fw ⟨rfl, ?_⟩))
    refine aG (e_ (dJ (I:=fun y c st'=>gR st st'/\Oq lt a b (ia1+ib1) c)
     (Q:=fun c st'=>gR st st'/\Uv lt a b (ia1+ib1) c) ?_ ?_ ⟨L1,_,_,_,_,_,_,rfl,m1,hb2,ha2,ay _⟩) ?_)
    ·rintro y c st' _ hy ⟨L',out',ia',ib',mg',ac,bc,rfl,m',hb',ha',hp'⟩
     have ha0:ia' < a.size:=by omega
     extract_lets v1 v2 v3 v4 v5 v6 v7 v8 v9 v10 v11 v12 jp v14
     have q2:out'=v2:=rfl
     have q4:ia'=v4:=rfl
     have q6:ib'=v6:=rfl
     have q11:bc=v11:=rfl
     have q12:ib'+1=v12:=rfl
     clear_value v2 v4 v6 v11 v12
     subst q2 q4 q6 q11 q12
     have J: ∀g,wpS (model prog w) A E s (jp () g) (fun r st2=>Ov lt a b (ia1+ib1) (gR st st2) r) st':=fun g=>by
      refine aG (nh fun st3 L3=> ?_)
      have L3:=L'.trans L3
      have k3:kindOf st3=κ:=L3.1.trans hk
      refine aG (cY (at_ b hb') ?_)
      refine aG (jw (g:=fun i=>a.getD (ia'+i) b[ib']) o c k3 (fun i hi=> ?_) (fun i hi=> ?_) (fun i hi=> ?_) (t.gb hb') (fun i j hij hj=> ?_) (by omega) fun k hk0 g1 g2=> ?_)
      ·have:ia'+i < a.size:=by omega
       simp [this]
      ·have:ia'+i < a.size:=by omega
       simpa [this]using t.ga this
      ·have:ia'+i < a.size:=by omega
       simpa [this]using t.nab this hb'
      ·have h1:ia'+i < a.size:=by omega
       have h2:ia'+j < a.size:=by omega
       simpa [h1,h2]using t.upA (show ia'+i < ia'+j by omega) h2
      have m3:i6 lt a.toList b.toList (out' ++ a.extract ia' (ia'+k)).toList (ia'+k) ib':=by
       rw [cE,yf]
       refine m'.pushA (by rw [aj]; omega) t.sa fun x hx y hy=> ?_
       obtain⟨j,j1,j2,hj,rfl⟩:=Cs hx
       have z:=g1 (j - ia') (by omega)
       have e:ia'+(j - ia')=j:=by omega
       rw [e]at z
       have z:lt a[j] b[ib']=true:=by simpa [hj]using z
       exact above o t.sb (Jw b hb') z hy
      have u3: ∀y∈a.toList.drop (ia'+k),lt b[ib'] y=true:=fun y hy=>by
       obtain⟨j,j1,hj,rfl⟩:=mq hy
       have z:=g2 (j - ia') (by omega) (by omega)
       have e:ia'+(j - ia')=j:=by omega
       rw [e]at z
       have z:lt a[j] b[ib']=false:=by simpa [hj]using z
       exact o.wd _ _ (t.ga hj) (t.gb hb') (t.nab hj hb') z
      dsimp -zeta only
      extract_lets ac2 jp2 out2 ia2
      have J2: ∀(out3:Array Kd) (ia3:Nat),i6 lt a.toList b.toList out3.toList ia3 ib'->ia3+1 < a.size->ia'<=ia3->(∀y∈a.toList.drop ia3,lt b[ib'] y=true)->wpS (model prog w) A E s (jp2 () out3 ia3) (fun r st2=>Ov lt a b (ia1+ib1) (gR st st2) r) st3:=fun out3 ia3 m3 h3 l3 u3=>by
       have m4:=t.oneB o m3 hb' u3
       have ha3:ia3 < a.size:=by omega
       refine aG (cY (at_ b hb') ?_)
       refine cw (fun e=> ?_) fun e=> ?_
       ·have e:(ib'+1==b.size)=true:=e
        exact aM ⟨L3, .inl ⟨_,_,rfl,t.doneB (ia:=ia3) (ib:=ib'+1) m4 (.inl (by have:=beq_iff_eq.mp e; omega))⟩⟩
       have e: ¬ib'+1=b.size:=fun z=>e (beq_iff_eq.mpr z)
       refine aG (cY (at_ a ha3) ?_)
       refine aG (jw (g:=fun i=>b.getD (ib'+1+i) a[ia3]) o c k3 (fun i hi=> ?_) (fun i hi=> ?_) (fun i hi=> ?_) (t.ga ha3) (fun i j hij hj=> ?_) (by omega) fun k2 hk2 r1 r2=> ?_)
       ·have:ib'+1+i < b.size:=by omega
        simp [this]
       ·have:ib'+1+i < b.size:=by omega
        simpa [this]using t.gb this
       ·have:ib'+1+i < b.size:=by omega
        simpa [this]using fun z=>t.nab ha3 this (Eq.symm z)
       ·have h1:ib'+1+i < b.size:=by omega
        have h2:ib'+1+j < b.size:=by omega
        simpa [h1,h2]using t.upB (show ib'+1+i < ib'+1+j by omega) h2
       have m5:i6 lt a.toList b.toList (out3.push b[ib'] ++ b.extract (ib'+1) (ib'+1+k2)).toList ia3 (ib'+1+k2):=by
        rw [cE,yf]
        refine m4.pushB (by rw [aj]; omega) t.sb fun x hx y hy=> ?_
        obtain⟨j,j1,j2,hj,rfl⟩:=Cs hx
        have z:=r1 (j - (ib'+1)) (by omega)
        have e:ib'+1+(j - (ib'+1))=j:=by omega
        rw [e]at z
        have z:lt b[j] a[ia3]=true:=by simpa [hj]using z
        exact above o t.sa (Jw a ha3) z hy
       have u5: ∀y∈b.toList.drop (ib'+1+k2),lt a[ia3] y=true:=fun y hy=>by
        obtain⟨j,j1,hj,rfl⟩:=mq hy
        have z:=r2 (j - (ib'+1)) (by omega) (by omega)
        have e:ib'+1+(j - (ib'+1))=j:=by omega
        rw [e]at z
        have z:lt b[j] a[ia3]=false:=by simpa [hj]using z
        exact o.wd _ _ (t.gb hj) (t.ga ha3) (fun z=>t.nab ha3 hj z.symm) z
       dsimp -zeta only
       extract_lets bc2 ia6 jp3 out4 ib4
       have J3: ∀(out5:Array Kd) (ib5:Nat),i6 lt a.toList b.toList out5.toList ia3 ib5->ib5 < b.size->ib'+1<=ib5->(∀y∈b.toList.drop ib5,lt a[ia3] y=true)->wpS (model prog w) A E s (jp3 () out5 ib5) (fun r st2=>Ov lt a b (ia1+ib1) (gR st st2) r) st3:=fun out5 ib5 m5 h5 l5 u5=>by
        have m6:=t.oneA o m5 ha3 u5
        refine aG (cY (at_ a ha3) ?_)
        refine cw (fun e=> ?_) fun e=> ?_
        ·have e:(ia3+1+1==a.size)=true:=e
         exact aM ⟨L3, .inl ⟨_,_,rfl,t.lastA (ia:=ia3+1) (ib:=ib5) m6 (by have:=beq_iff_eq.mp e; omega)⟩⟩
        ·have e: ¬ia3+1+1=a.size:=fun z=>e (beq_iff_eq.mpr z)
         refine cw (fun _=>aM ?_) fun _=>aM ?_
         ·exact⟨L3, .inr ⟨_,ia3+1,ib5,_,_,_,rfl,m6,h5,by omega,by omega⟩⟩
         ·exact⟨L3,_,ia3+1,ib5,_,_,_,rfl,m6,h5,by omega,by omega⟩
       refine cw (fun e2=> ?_) fun e2=> ?_
       ·refine cw (fun e3=> ?_) fun e3=> ?_
        ·have e3:(ib'+1+k2==b.size)=true:=e3
         exact aM ⟨L3, .inl ⟨_,_,rfl,t.doneB (ia:=ia3) (ib:=ib'+1+k2) m5 (.inl (by have:=beq_iff_eq.mp e3; omega))⟩⟩
        ·have e3: ¬ib'+1+k2=b.size:=fun z=>e3 (beq_iff_eq.mpr z)
         exact J3 _ _ m5 (by omega) (by omega) u5
       ·have z:k2=0:=by omega
        subst z
        exact J3 _ _ m4 (by omega) (by omega) u5
      refine cw (fun e2=> ?_) fun e2=> ?_
      ·refine cw (fun e3=> ?_) fun e3=> ?_
       ·have e3:(ia'+k+1==a.size)=true:=e3
        exact aM ⟨L3, .inl ⟨_,_,rfl,t.lastA (ia:=ia'+k) (ib:=ib') m3 (by have:=beq_iff_eq.mp e3; omega)⟩⟩
       ·have e3: ¬ia'+k+1=a.size:=fun z=>e3 (beq_iff_eq.mpr z)
        refine cw (fun e4=> ?_) fun e4=> ?_
        ·have e4:(ia'+k==a.size)=true:=e4
         exact aM ⟨L3, .inl ⟨_,_,rfl,t.doneB (ia:=ia'+k) (ib:=ib') m3 (.inr (by have:=beq_iff_eq.mp e4; omega))⟩⟩
        ·have e4: ¬ia'+k=a.size:=fun z=>e4 (beq_iff_eq.mpr z)
         exact J2 _ _ m3 (by omega) (by omega) u3
      ·have z:k=0:=by omega
       subst z
       exact J2 _ _ m' (by omega) (by omega) u3
     exact cw (fun _=>e_ (J _) fun r st2 z=>by cases r <;> exact z) fun _=>e_ (J _) fun r st2 z=>by cases r <;> exact z
    ·rintro c st' ⟨L',out',ia',ib',mg',ac,bc,rfl,m',hb',ha',hp'⟩
     exact⟨L', .inr ⟨_,_,_,_,_,_,rfl,m',hb',ha',hp'⟩⟩
    ·rintro c st' ⟨L',⟨r,rest,rfl,hr⟩ | ⟨out',ia',ib',mg',ac,bc,rfl,m',hb',ha',hp'⟩⟩
     ·exact aM ⟨_,_,rfl,L',hr⟩
     ·refine aG (nh fun st3 L3=>aM ?_)
      exact⟨L'.trans L3,_,ia',ib',_,rfl,m',hb',ha',by omega⟩
 ·rintro c st' ⟨L',out,ia,ib,mg,rfl,m,hb1,ha1,hp1⟩
  omega
 ·rintro c st' ⟨r,rest,rfl,L',hr⟩
  exact aM (h r st' L' hr)
end
structure i3(lt:Kd->Kd->Bool)(a b out:List Kd)(na nb:Nat):Prop where
 ha:na<=a.length
 hb:nb<=b.length
 perm:out.Perm (a.drop na ++ b.drop nb)
 n9:mD lt out
 hi: ∀x,(x∈a.take na\/x∈b.take nb)-> ∀y∈out,lt x y=true
section
variable {lt:Kd->Kd->Bool}{a b out:List Kd}{na nb k:Nat}
theorem i3.swap(m:i3 lt a b out na nb):i3 lt b a out nb na:=⟨m.hb,m.ha,m.perm.trans cT,m.n9,fun x hx y hy=>m.hi x hx.symm y hy⟩
theorem HY(a:List Kd){i n:Nat}(h:i<=n):a.take n=a.take i ++ (a.take n).drop i:=by
 have:=bb i (a.take n)
 rw [List.take_take,Le h]at this
 exact this.symm
theorem C_(a:List Kd){i n:Nat}(h:i<=n)(hn:n<=a.length):a.drop i=(a.take n).drop i ++ a.drop n:=by
 have e:a=a.take n ++ a.drop n:=(bb n a).symm
 conv=>lhs; rw [e]
 exact vO (by rw [bu]; omega)
theorem i3.preA(m:i3 lt a b out na nb)(hk:k<=na)(sa:mD lt a)(h: ∀x∈(a.take na).drop k, ∀y∈b.take nb,lt y x=true):i3 lt a b ((a.take na).drop k ++ out) k nb:=by
 have sd:mD lt (a.take na):=dq (mU na a) sa
 have cut:=HY a hk
 have sd':=sd
 rw [cut]at sd'
 have c:=bX.mp sd'
 have mm: ∀x,x∈(a.take na).drop k->x∈a.take na:=fun x hx=>ki hx
 refine⟨bE hk m.ha,m.hb, ?_,bX.mpr ⟨c.2.1,m.n9,fun x hx y hy=>m.hi x (.inl (mm x hx)) y hy⟩,fun x hx y hy=> ?_⟩
 ·rw [C_ a hk m.ha,aV]
  exact eK _ m.perm
 ·rcases bP.mp hy with hy | hy
  ·rcases hx with hx | hx
   ·exact c.2.2 x hx y hy
   ·exact h y hy x hx
  ·exact m.hi x (hx.imp (fun z=>by rw [cut]; exact dO _ z) id) y hy
theorem i3.preB(m:i3 lt a b out na nb)(hk:k<=nb)(sb:mD lt b)(h: ∀x∈(b.take nb).drop k, ∀y∈a.take na,lt y x=true):i3 lt a b ((b.take nb).drop k ++ out) na k:=(m.swap.preA hk sb h).swap
theorem i3.finA(m:i3 lt a b out na nb)(sa:mD lt a)(sb:mD lt b)(h: ∀x∈a.take na, ∀y∈b.take nb,lt x y=true):(a.take na ++ b.take nb ++ out).Perm (a ++ b)/\mD lt (a.take na ++ b.take nb ++ out):=by
 constructor
 ·have e1:(a ++ b).Perm ((a.take na ++ a.drop na) ++ (b.take nb ++ b.drop nb)):=by rw [bb,bb]
  refine gU ?_ e1.symm
  refine(m.perm.append_left _).trans ?_
  rw [aV,aV]
  refine eK _ ?_
  rw [<-aV, <-aV]
  exact cT.append_right _
 ·refine bX.mpr ⟨bX.mpr ⟨dq (mU na a) sa,dq (mU nb b) sb,h⟩,m.n9,fun x hx y hy=>m.hi x (bP.mp hx) y hy⟩
theorem i3.finB(m:i3 lt a b out na nb)(sa:mD lt a)(sb:mD lt b)(h: ∀x∈b.take nb, ∀y∈a.take na,lt x y=true):(b.take nb ++ a.take na ++ out).Perm (a ++ b)/\mD lt (b.take nb ++ a.take na ++ out):=
 let⟨p,q⟩:=m.swap.finA sb sa h; ⟨p.trans cT,q⟩
end
section
variable {prog:aq}{w:World}{A:bA}{E:Value->ai->Prop}{s:ai}{κ:kj}{S:Kd->Prop}{lt:Kd->Kd->Bool}{st:cv}
theorem tF(a:Array Kd)(n:Nat):(a.extract 0 n).toList=a.toList.take n:=by
 rw [kh,mO,BJ,lY]
theorem xr(a:Array Kd)(i n:Nat):(a.extract i n).toList=(a.toList.take n).drop i:=by
 rw [kh,mO,List.drop_take]
theorem jO{a:Array Kd}{i:Nat}{y:Kd}(h:y∈a.toList.take i): ∃j,j < i/\ ∃hj:j < a.size,y=a[j]:=by
 obtain⟨k,hk,e⟩:=aW.mp h
 rw [bu,aj]at hk
 refine⟨k,by omega,by omega, ?_⟩
 rw [<-e,fP]
 simp
theorem mem_mid{a:Array Kd}{i n:Nat}{y:Kd}(h:y∈(a.toList.take n).drop i): ∃j,i<=j/\j < n/\ ∃hj:j < a.size,y=a[j]:=by
 obtain⟨m,hm,e⟩:=aW.mp h
 rw [bI,bu,aj]at hm
 refine⟨i+m,by omega,by omega,by omega, ?_⟩
 rw [<-e,d_,fP]
 simp
section
variable {a b out:Array Kd}{na nb:Nat}
theorem tu{i:Nat}(h:i < a.size):(a.toList.take (i+1)).drop i= [a[i]]:=by
 rw [eX,Jw a h,vO (by rw [bu,aj]; omega)]
 rw [fe (by rw [bu,aj]; omega)]
 rfl
theorem FD(o:oo S lt)(t:pv S lt a b){i n:Nat}{y z:Kd}(hi:i < a.size)(hn:n<=i+1)(hy:y∈a.toList.take n)(h:lt a[i] z=true):lt y z=true:=by
 obtain⟨j,j1,hj,rfl⟩:=jO hy
 by_cases e:j=i
 ·subst e; exact h
 ·exact o.tr _ _ _ (t.upA (show j < i by omega) hi) h
theorem Fj(o:oo S lt)(t:pv S lt a b){i n:Nat}{y z:Kd}(hi:i < b.size)(hn:n<=i+1)(hy:y∈b.toList.take n)(h:lt b[i] z=true):lt y z=true:=by
 obtain⟨j,j1,hj,rfl⟩:=jO hy
 by_cases e:j=i
 ·subst e; exact h
 ·exact o.tr _ _ _ (t.upB (show j < i by omega) hi) h
theorem pv.done0(t:pv S lt a b)(m:i3 lt a.toList b.toList out.toList.reverse na nb)(h:na=0\/nb=0):Res lt a b (a.extract 0 na ++ b.extract 0 nb ++ out.reverse):=by
 have:=m.finA t.sa t.sb fun x hx y hy=>by
  obtain⟨j,h1,h2,_⟩:=jO hx
  obtain⟨j',h1',h2',_⟩:=jO hy
  omega
 unfold Res
 rw [cE,cE,tF,tF,qw]
 exact this
theorem pv.fstB(t:pv S lt a b)(m:i3 lt a.toList b.toList out.toList.reverse na nb)(h:nb=1):Res lt a b (b.extract 0 nb ++ a.extract 0 na ++ out.reverse):=by
 have:=m.finB t.sa t.sb fun x hx y hy=>by
  obtain⟨j,h1,h2,rfl⟩:=jO hx
  obtain⟨j',h1',h2',rfl⟩:=jO hy
  have e:j=0:=by omega
  subst e
  exact t.fst a[j'] (by simp)
 unfold Res
 rw [cE,cE,tF,tF,qw]
 exact this
theorem pv.preB1(t:pv S lt a b)(m:i3 lt a.toList b.toList out.toList.reverse na (nb+1))(hb:nb < b.size)(h: ∀y∈a.toList.take na,lt y b[nb]=true):i3 lt a.toList b.toList (out.push b[nb]).toList.reverse na nb:=by
 have:=m.preB (k:=nb) (by omega) t.sb fun x hx y hy=>by
  rw [tu hb]at hx
  rcases aN.mp hx with rfl
  exact h y hy
 rw [tu hb]at this
 rw [jF,q_]
 exact this
theorem pv.preA1(t:pv S lt a b)(m:i3 lt a.toList b.toList out.toList.reverse (na+1) nb)(ha:na < a.size)(h: ∀y∈b.toList.take nb,lt y a[na]=true):i3 lt a.toList b.toList (out.push a[na]).toList.reverse na nb:=by
 have:=m.preA (k:=na) (by omega) t.sa fun x hx y hy=>by
  rw [tu ha]at hx
  rcases aN.mp hx with rfl
  exact h y hy
 rw [tu ha]at this
 rw [jF,q_]
 exact this
end
def OM(lt:Kd->Kd->Bool)(a b:Array Kd)(n:Nat)(c:Option (Array Kd)×Nat×Nat×Array Kd×Nat×Nat×Nat):Prop:=
 ∃na nb out mg ac bc,c=(none,na+1,nb+2,out,mg,ac,bc)/\i3 lt a.toList b.toList out.toList.reverse (na+1) (nb+2)/\na+nb<=n
def Uq(lt:Kd->Kd->Bool)(a b:Array Kd)(n:Nat)(c:Option (Array Kd)×Nat×Nat×Array Kd×Nat×Nat×Nat):Prop:=
 (∃r rest,c=(some r,rest)/\Res lt a b r)\/OM lt a b n c
def OD(lt:Kd->Kd->Bool)(a b:Array Kd)(n:Nat)(L:Prop):ForInStep (Option (Array Kd)×Nat×Nat×Array Kd×Nat×Nat×Nat)->Prop
 | .done c=>L/\Uq lt a b n c
 | .yield c=>L/\OM lt a b n c
set_option maxHeartbeats 4000000 in
theorem zg{a b:Array Kd}{Q:Array Kd->cv->Prop}(o:oo S lt)(c:ue prog w A s κ S lt)(hk:kindOf st=κ)(t:pv S lt a b)
  (h: ∀(res:Array Kd) (st':cv),gR st st'->Res lt a b res->Q res st'):wpS (model prog w) A E s (GY a b) Q st:=by
 have na0:=t.na
 have nb0:=t.nb
 obtain⟨a1,ea⟩: ∃a1,a.size=a1+1:=⟨a.size - 1,by omega⟩
 obtain⟨b1,eb⟩: ∃b1,b.size=b1+1:=⟨b.size - 1,by omega⟩
 have hla:a1 < a.size:=by omega
 have m0:i3 lt a.toList b.toList (#[a[a1]]:Array Kd).toList.reverse a1 (b1+1):=by
  have:i3 lt a.toList b.toList [] (a1+1) (b1+1):=⟨by rw [aj]; omega,by rw [aj]; omega,by rw [fe (by rw [aj]; omega),fe (by rw [aj]; omega)]; exact dB _,eU,fun x hx y hy=>by cases hy⟩
  refine pv.preA1 (out:= #[]) t this hla fun y hy=> ?_
  have:=t.lst y (ip hy)
  have e:a.size - 1=a1:=by omega
  simpa [e]using this
 refine aG (sY (fw ⟨rfl, ?_⟩))
 have e0:a[a.size - 1]? =some a[a1]:=by rw [show a.size - 1=a1 by omega]; exact at_ a hla
 refine aG (cY e0 ?_)
 have ea':a.size - 1=a1:=by omega
 rw [ea',eb]
 refine cw (fun e=> ?_) fun e1=> ?_
 ·have e:(a1==0)=true:=e
  exact aM (h _ _ (.refl _) (t.done0 m0 (.inl (beq_iff_eq.mp e))))
 have e1: ¬a1=0:=fun z=>e1 (beq_iff_eq.mpr z)
 refine cw (fun e=> ?_) fun e2=> ?_
 ·have e:(b1+1==1)=true:=e
  exact aM (h _ _ (.refl _) (t.fstB m0 (beq_iff_eq.mp e)))
 have e2: ¬b1+1=1:=fun z=>e2 (beq_iff_eq.mpr z)
 refine aG (oH ?_)
 refine aG (e_ (dJ (I:=fun x c st'=>gR st st'/\ ∃na nb out mg,c=(none,na+1,nb+2,out,mg)/\i3 lt a.toList b.toList out.toList.reverse (na+1) (nb+2)/\x+na+nb+4<=a.size+(b1+1))
   (Q:=fun c st'=> ∃r rest,c=(some r,rest)/\gR st st'/\Res lt a b r) ?_ ?_ ⟨.refl _,a1 - 1,b1 - 1,_,_,by rw [show a1 - 1+1=a1 by omega,show b1 - 1+2=b1+1 by omega],by rw [show a1 - 1+1=a1 by omega,show b1 - 1+2=b1+1 by omega]; exact m0,by omega⟩) ?_)
 ·rintro x c st1 _ hx ⟨L1,na,nb,out,mg,rfl,m,hp1⟩
  have k1:kindOf st1=κ:=L1.1.trans hk
  refine aG (e_ (dJ (I:=fun y c st'=>st'=st1/\ ∃na' nb' out' ac bc,c=(none,na'+1,nb'+2,out',ac,bc)/\i3 lt a.toList b.toList out'.toList.reverse (na'+1) (nb'+2)/\y+(na'+nb')<=na+nb)
   (Q:=fun c st'=>st'=st1/\((∃r rest,c=(some r,rest)/\Res lt a b r)\/ ∃na' nb' out' ac bc,c=(none,na'+1,nb'+2,out',ac,bc)/\i3 lt a.toList b.toList out'.toList.reverse (na'+1) (nb'+2)/\na'+nb'+1<=na+nb)) ?_ ?_ ⟨rfl,na,nb,out,_,_,rfl,m,by omega⟩) ?_)
  ·rintro y c st' _ hy ⟨rfl,na',nb',out',ac,bc,rfl,m',hp'⟩
   have ha0:na' < a.size:=by have:=m'.ha; rw [aj]at this; omega
   have hb0:nb'+1 < b.size:=by have:=m'.hb; rw [aj]at this; omega
   refine aG (cY (at_ b hb0) ?_)
   refine aG (cY (at_ a ha0) ?_)
   refine aG (ug c k1 (t.gb hb0) (t.ga ha0) ?_)
   cases eq:lt b[nb'+1] a[na']with
   | true=>
    have m2:=t.preA1 m' ha0 fun y hy=>Fj o t hb0 (by omega) hy eq
    refine aG (cY (at_ a ha0) ?_)
    refine cw (fun e=> ?_) fun e=> ?_
    ·have e:(na'==0)=true:=e
     exact aM ⟨rfl, .inl ⟨_,_,rfl,t.done0 (na:=na') (nb:=nb'+2) m2 (.inl (beq_iff_eq.mp e))⟩⟩
    ·have e: ¬na'=0:=fun z=>e (beq_iff_eq.mpr z)
     obtain⟨n2,rfl⟩: ∃n2,na'=n2+1:=⟨na' - 1,by omega⟩
     refine cw (fun e3=>aM ?_) fun e3=>aM ?_
     ·exact⟨rfl, .inr ⟨n2,nb',_,_,_,rfl,m2,by omega⟩⟩
     ·exact⟨rfl,n2,nb',_,_,_,rfl,m2,by omega⟩
   | false=>
    have eq2:=o.wd _ _ (t.gb hb0) (t.ga ha0) (fun z=>t.nab ha0 hb0 z.symm) eq
    have m2:=t.preB1 (nb:=nb'+1) m' hb0 fun y hy=>FD o t ha0 (by omega) hy eq2
    refine aG (cY (at_ b hb0) ?_)
    refine cw (fun e=> ?_) fun e=> ?_
    ·have e:(nb'+1==1)=true:=e
     exact aM ⟨rfl, .inl ⟨_,_,rfl,t.fstB (na:=na'+1) (nb:=nb'+1) m2 (beq_iff_eq.mp e)⟩⟩
    ·have e: ¬nb'+1=1:=fun z=>e (beq_iff_eq.mpr z)
     obtain⟨n2,rfl⟩: ∃n2,nb'=n2+1:=⟨nb' - 1,by omega⟩
     refine cw (fun e3=>aM ?_) fun e3=>aM ?_
     ·exact⟨rfl, .inr ⟨na',n2,_,_,_,rfl,m2,by omega⟩⟩
     ·exact⟨rfl,na',n2,_,_,_,rfl,m2,by omega⟩
  ·rintro c st' ⟨rfl,na',nb',out',ac,bc,rfl,m',hp'⟩
   exact⟨rfl, .inr ⟨na',nb',_,_,_,rfl,m',by omega⟩⟩
  ·rintro c st' ⟨rfl,⟨r,rest,rfl,hr⟩ | ⟨na1,nb1,out1,ac1,bc1,rfl,m1,hp2⟩⟩
   ·exact aM ⟨_,_,rfl,L1,hr⟩
   ·refine aG (sY (fw ⟨rfl, ?_⟩))
    refine aG (e_ (dJ (I:=fun y c st'=>gR st st'/\OM lt a b (na1+nb1) c)
     (Q:=fun c st'=>gR st st'/\Uq lt a b (na1+nb1) c) ?_ ?_ ⟨L1,na1,nb1,_,_,_,_,rfl,m1,ay _⟩) ?_)
    ·rintro y c st' _ hy ⟨L',na',nb',out',mg',ac,bc,rfl,m',hp'⟩
     have ha0:na' < a.size:=by have:=m'.ha; rw [aj]at this; omega
     have hb0:nb'+1 < b.size:=by have:=m'.hb; rw [aj]at this; omega
     extract_lets v1 v2 v3 v4 v5 v6 v7 v8 v9 v10 v11 v12 jp v14
     have q2:na'+1=v2:=rfl
     have q4:nb'+2=v4:=rfl
     have q6:out'=v6:=rfl
     have q11:bc=v11:=rfl
     have q12:nb'+1=v12:=rfl
     clear_value v2 v4 v6 v11 v12
     subst q2 q4 q6 q11 q12
     have J: ∀g,wpS (model prog w) A E s (jp () g) (fun r st2=>OD lt a b (na1+nb1) (gR st st2) r) st':=fun g=>by
      refine aG (nh fun st3 L3=> ?_)
      have L3:=L'.trans L3
      have k3:kindOf st3=κ:=L3.1.trans hk
      refine aG (cY (at_ b hb0) ?_)
      refine aG (jw (g:=fun i=>a.getD i b[nb'+1]) o c k3 (fun i hi=> ?_) (fun i hi=> ?_) (fun i hi=> ?_) (t.gb hb0) (fun i j hij hj=> ?_) (by omega) fun k hk0 g1 g2=> ?_)
      ·have:i < a.size:=by omega
       simp [this]
      ·have:i < a.size:=by omega
       simpa [this]using t.ga this
      ·have:i < a.size:=by omega
       simpa [this]using t.nab this hb0
      ·have h1:i < a.size:=by omega
       have h2:j < a.size:=by omega
       simpa [h1,h2]using t.upA hij h2
      have m3:i3 lt a.toList b.toList (out' ++ (a.extract k (na'+1)).reverse).toList.reverse k (nb'+2):=by
       rw [cE,qw,q_,List.reverse_reverse,xr]
       refine m'.preA hk0 t.sa fun x hx y hy=> ?_
       obtain⟨j,j1,j2,hj,rfl⟩:=mem_mid hx
       have z:=g2 j j1 j2
       have z:lt a[j] b[nb'+1]=false:=by simpa [hj]using z
       exact Fj o t hb0 (by omega) hy (o.wd _ _ (t.ga hj) (t.gb hb0) (t.nab hj hb0) z)
      have u3: ∀y∈a.toList.take k,lt y b[nb'+1]=true:=fun y hy=>by
       obtain⟨j,j1,hj,rfl⟩:=jO hy
       have z:=g1 j j1
       simpa [hj]using z
      dsimp -zeta only
      extract_lets kk ac2 jp2 out2
      have J2: ∀(na3:Nat) (out3:Array Kd),i3 lt a.toList b.toList out3.toList.reverse na3 (nb'+2)->1<=na3->na3<=na'+1->(∀y∈a.toList.take na3,lt y b[nb'+1]=true)->wpS (model prog w) A E s (jp2 () na3 out3) (fun r st2=>OD lt a b (na1+nb1) (gR st st2) r) st3:=fun na3 out3 m3 h3 l3 u3=>by
       have m4:=t.preB1 (nb:=nb'+1) m3 hb0 u3
       obtain⟨p,rfl⟩: ∃p,na3=p+1:=⟨na3 - 1,by omega⟩
       have ha3:p < a.size:=by omega
       refine aG (cY (at_ b hb0) ?_)
       refine cw (fun e=> ?_) fun e=> ?_
       ·have e:(nb'+1==1)=true:=e
        exact aM ⟨L3, .inl ⟨_,_,rfl,t.fstB (na:=p+1) (nb:=nb'+1) m4 (beq_iff_eq.mp e)⟩⟩
       have e: ¬nb'+1=1:=fun z=>e (beq_iff_eq.mpr z)
       refine aG (cY (at_ a ha3) ?_)
       refine aG (jw (g:=fun i=>b.getD i a[p]) o c k3 (fun i hi=> ?_) (fun i hi=> ?_) (fun i hi=> ?_) (t.ga ha3) (fun i j hij hj=> ?_) (by omega) fun k2 hk2 r1 r2=> ?_)
       ·have:i < b.size:=by omega
        simp [this]
       ·have:i < b.size:=by omega
        simpa [this]using t.gb this
       ·have:i < b.size:=by omega
        simpa [this]using fun z=>t.nab ha3 this (Eq.symm z)
       ·have h1:i < b.size:=by omega
        have h2:j < b.size:=by omega
        simpa [h1,h2]using t.upB hij h2
       have m5:i3 lt a.toList b.toList (out3.push b[nb'+1] ++ (b.extract k2 (nb'+1)).reverse).toList.reverse (p+1) k2:=by
        rw [cE,qw,q_,List.reverse_reverse,xr]
        refine m4.preB hk2 t.sb fun x hx y hy=> ?_
        obtain⟨j,j1,j2,hj,rfl⟩:=mem_mid hx
        have z:=r2 j j1 j2
        have z:lt b[j] a[p]=false:=by simpa [hj]using z
        exact FD o t ha3 (by omega) hy (o.wd _ _ (t.gb hj) (t.ga ha3) (fun z=>t.nab ha3 hj z.symm) z)
       have u5: ∀y∈b.toList.take k2,lt y a[p]=true:=fun y hy=>by
        obtain⟨j,j1,hj,rfl⟩:=jO hy
        have z:=r1 j j1
        simpa [hj]using z
       dsimp -zeta only
       extract_lets kk2 bc2 na6 jp3 out4
       have J3: ∀(nb5:Nat) (out5:Array Kd),i3 lt a.toList b.toList out5.toList.reverse (p+1) nb5->2<=nb5->nb5<=nb'+1->(∀y∈b.toList.take nb5,lt y a[p]=true)->wpS (model prog w) A E s (jp3 () nb5 out5) (fun r st2=>OD lt a b (na1+nb1) (gR st st2) r) st3:=fun nb5 out5 m5 h5 l5 u5=>by
        have m6:=t.preA1 m5 ha3 u5
        obtain⟨q,rfl⟩: ∃q,nb5=q+2:=⟨nb5 - 2,by omega⟩
        refine aG (cY (at_ a ha3) ?_)
        refine cw (fun e=> ?_) fun e=> ?_
        ·have e:(p==0)=true:=e
         exact aM ⟨L3, .inl ⟨_,_,rfl,t.done0 (na:=p) (nb:=q+2) m6 (.inl (beq_iff_eq.mp e))⟩⟩
        ·have e: ¬p=0:=fun z=>e (beq_iff_eq.mpr z)
         obtain⟨p2,rfl⟩: ∃p2,p=p2+1:=⟨p - 1,by omega⟩
         refine cw (fun _=>aM ?_) fun _=>aM ?_
         ·exact⟨L3, .inr ⟨p2,q,_,_,_,_,rfl,m6,by omega⟩⟩
         ·exact⟨L3,p2,q,_,_,_,_,rfl,m6,by omega⟩
       refine cw (fun e2=> ?_) fun e2=> ?_
       ·refine cw (fun e3=> ?_) fun e3=> ?_
        ·have e3:(k2==1)=true:=e3
         exact aM ⟨L3, .inl ⟨_,_,rfl,t.fstB (na:=p+1) (nb:=k2) m5 (beq_iff_eq.mp e3)⟩⟩
        ·have e3: ¬k2=1:=fun z=>e3 (beq_iff_eq.mpr z)
         refine cw (fun e4=> ?_) fun e4=> ?_
         ·have e4:(k2==0)=true:=e4
          exact aM ⟨L3, .inl ⟨_,_,rfl,t.done0 (na:=p+1) (nb:=k2) m5 (.inr (beq_iff_eq.mp e4))⟩⟩
         ·have e4: ¬k2=0:=fun z=>e4 (beq_iff_eq.mpr z)
          exact J3 _ _ m5 (by omega) (by omega) u5
       ·have e2: ¬nb'+1 - k2 > 0:=e2
        have z:k2=nb'+1:=by omega
        subst z
        exact J3 _ _ m4 (by omega) (by omega) u5
      refine cw (fun e2=> ?_) fun e2=> ?_
      ·refine cw (fun e3=> ?_) fun e3=> ?_
       ·have e3:(k==0)=true:=e3
        exact aM ⟨L3, .inl ⟨_,_,rfl,t.done0 (na:=k) (nb:=nb'+2) m3 (.inl (beq_iff_eq.mp e3))⟩⟩
       ·have e3: ¬k=0:=fun z=>e3 (beq_iff_eq.mpr z)
        exact J2 _ _ m3 (by omega) (by omega) u3
      ·have e2: ¬na'+1 - k > 0:=e2
       have z:k=na'+1:=by omega
       subst z
       exact J2 _ _ m' (by omega) (by omega) u3
     exact cw (fun _=>e_ (J _) fun r st2 z=>by cases r <;> exact z) fun _=>e_ (J _) fun r st2 z=>by cases r <;> exact z
    ·rintro c st' ⟨L',na',nb',out',mg',ac,bc,rfl,m',hp'⟩
     exact⟨L', .inr ⟨na',nb',_,_,_,_,rfl,m',hp'⟩⟩
    ·rintro c st' ⟨L',⟨r,rest,rfl,hr⟩ | ⟨na',nb',out',mg',ac,bc,rfl,m',hp'⟩⟩
     ·exact aM ⟨_,_,rfl,L',hr⟩
     ·refine aG (nh fun st3 L3=>aM ?_)
      exact⟨L'.trans L3,na',nb',_,_,rfl,m',by omega⟩
 ·rintro c st' ⟨L',na,nb,out,mg,rfl,m,hp1⟩
  omega
 ·rintro c st' ⟨r,rest,rfl,L',hr⟩
  exact aM (h r st' L' hr)
end
theorem AG{pre x rest:List Kd}{arr:Array Kd}(e:arr.toList=pre ++ (x ++ rest)){i:Nat}(h:i < x.length):arr[pre.length+i]? =some x[i]:=by
 rw [<-bD,e,fv (by omega),jl,fG h,ah h]
theorem Cn: ∀(l:List Kd) (arr:Array Kd) (sa n:Nat),sa+n+l.length<=arr.size->
  ((l.zipIdx n).foldl (fun a (x:Kd×Nat)=>match x with | (p,j)=>a.setIfInBounds (sa+j) p) arr).toList=arr.toList.take (sa+n) ++ l ++ arr.toList.drop (sa+n+l.length)
 | [],arr,sa,n,h=>by simp
 | x::l,arr,sa,n,h=>by
  rw [aL]at h
  rw [KC,Lc]
  dsimp only
  have hs:(arr.setIfInBounds (sa+n) x).size=arr.size:=Array.size_setIfInBounds
  rw [Cn l _ sa (n+1) (by rw [hs]; omega),Array.toList_setIfInBounds]
  have hl:sa+n < arr.toList.length:=by rw [aj]; omega
  have e1:(arr.toList.set (sa+n) x).take (sa+(n+1))=arr.toList.take (sa+n) ++ [x]:=by
   rw [<-nK,eX,List.take_set_of_le (ay _),BA hl]
   rfl
  have e2:(arr.toList.set (sa+n) x).drop (sa+(n+1)+l.length)=arr.toList.drop (sa+n+(l.length+1)):=by
   rw [List.drop_set_of_lt (by omega)]
   congr 1
   omega
  rw [e1,e2,aL]
  simp
section
variable {prog:aq}{w:World}{A:bA}{E:Value->ai->Prop}{s:ai}{κ:kj}{S:Kd->Prop}{lt:Kd->Kd->Bool}{st:cv}
theorem HJ(o:oo S lt){x1 x2 y1 y2 m:List Kd}(sx:mD lt (x1 ++ x2))(sy:mD lt (y1 ++ y2))(sm:mD lt m)(pm:m.Perm (x2 ++ y1))(h1: ∀u∈x1, ∀v∈y1 ++ y2,lt u v=true)(h2: ∀u∈x2, ∀v∈y2,lt u v=true):mD lt (x1 ++ m ++ y2):=by
 have a:=bX.mp sx
 have b:=bX.mp sy
 refine bX.mpr ⟨bX.mpr ⟨a.1,sm,fun u hu v hv=> ?_⟩,b.2.1,fun u hu v hv=> ?_⟩
 ·rcases bP.mp (pm.mem_iff.mp hv)with hv | hv
  ·exact a.2.2 u hu v hv
  ·exact h1 u hu v (dO _ hv)
 ·rcases bP.mp hu with hu | hu
  ·exact h1 u hu v (ba _ hv)
  ·rcases bP.mp (pm.mem_iff.mp hu)with hu | hu
   ·exact h2 u hu v hv
   ·exact b.2.2 u hu v hv
theorem xx{x:List Kd}(h:mD lt x){i j:Nat}(hij:i < j)(hj:j < x.length):lt (x[i]'(by omega)) x[j]=true:=cM.mp h i j (by omega) hj hij
set_option maxHeartbeats 4000000 in
theorem zP{i pw pw2:Nat}{pre x y post:List Kd}{Q:Bool->cv->Prop}(o:oo S lt)(c:ue prog w A s κ S lt)(hk:kindOf st=κ)(hf:fO st=none)
  (hi:(cz st)[i]? =some (pre.length,x.length,pw))(hi1:(cz st)[i+1]? =some (pre.length+x.length,y.length,pw2))
  (e:(arrOf st).toList=pre ++ (x ++ (y ++ post)))(hx0:0 < x.length)(hy0:0 < y.length)(sx:mD lt x)(sy:mD lt y)(Sx: ∀u∈x,S u)(Sy: ∀u∈y,S u)(ne: ∀u∈x, ∀v∈y,u≠v)
  (h: ∀(z:List Kd) (st':cv),kindOf st'=κ->fO st'=none->cz st'=((cz st).setIfInBounds i (pre.length,x.length+y.length,pw)).eraseIdxIfInBounds (i+1)->(arrOf st').toList=pre ++ (z ++ post)->z.Perm (x ++ y)->mD lt z->Q true st'):
  wpS (model prog w) A E s (mergeAt' i) Q st:=by
 refine aG (oH ?_)
 rw [hi,hi1]
 refine aG (oI (f:=fun _=>_) ?_)
 have hsb:(arrOf st)[pre.length+x.length]? =some y[0]:=by
  have:=AG (pre:=pre ++ x) (x:=y) (rest:=post) (arr:=arrOf st) (by rw [e]; simp) (i:=0) hy0
  simpa using this
 have hxl: ∀k (hk:k < x.length),(arrOf st)[pre.length+k]? =some x[k]:=fun k hk=>AG e hk
 have hyl: ∀k (hk:k < y.length),(arrOf st)[pre.length+x.length+k]? =some y[k]:=fun k hk=>by
  have:=AG (pre:=pre ++ x) (x:=y) (rest:=post) (arr:=arrOf st) (by rw [e]; simp) hk
  rw [ao]at this
  exact this
 have Sy0:S y[0]:=Sy _ (a_ _)
 refine aG (cY hsb ?_)
 refine aG (jw (g:=fun k=>x.getD k y[0]) o c hk (fun k hk=> ?_) (fun k hk=> ?_) (fun k hk=> ?_) Sy0 (fun k j hij hj=> ?_) hx0 fun k hk0 g1 g2=> ?_)
 ·rw [hxl k hk]; simp [hk]
 ·simpa [hk]using Sx _ (a_ hk)
 ·simpa [hk]using ne _ (a_ hk) _ (a_ hy0)
 ·have h1:k < x.length:=by omega
  simpa [h1,hj]using xx sx hij hj
 have g1': ∀u∈x.take k,lt u y[0]=true:=fun u hu=>by
  obtain⟨j,hj,rfl⟩:=aW.mp hu
  rw [bu]at hj
  rw [fP]
  have h1:j < x.length:=by omega
  simpa [h1]using g1 j (by omega)
 have g2': ∀u∈x.drop k,lt y[0] u=true:=fun u hu=>by
  obtain⟨j,hj,rfl⟩:=aW.mp hu
  rw [bI]at hj
  rw [d_]
  have h1:k+j < x.length:=by omega
  have z:lt x[k+j] y[0]=false:=by simpa [h1]using g2 (k+j) (by omega) h1
  exact o.wd _ _ (Sx _ (a_ h1)) Sy0 (ne _ (a_ h1) _ (a_ hy0)) z
 have y0le: ∀u,lt u y[0]=true-> ∀v∈y,lt u v=true:=fun u hu v hv=>by
  obtain⟨j,hj,rfl⟩:=aW.mp hv
  by_cases hz:j=0
  ·subst hz; exact hu
  ·exact o.tr _ _ _ hu (xx sy (by omega) hj)
 refine cw (fun e0=> ?_) fun e0=> ?_
 ·have e0:(x.length - k==0)=true:=e0
  have e0:=beq_iff_eq.mp e0
  refine aM (h (x ++ y) _ hk hf rfl (by rw [aV]; exact e) (dB _) (bX.mpr ⟨sx,sy,fun u hu v hv=>y0le u (g1' u ?_) v hv⟩))
  rw [dY (by omega)]
  exact hu
 have e0: ¬x.length - k=0:=fun z=>e0 (beq_iff_eq.mpr z)
 have hl:x.length - 1 < x.length:=by omega
 have hsl:(arrOf st)[pre.length+k+(x.length - k) - 1]? =some x[x.length - 1]:=by
  rw [show pre.length+k+(x.length - k) - 1=pre.length+(x.length - 1) by omega]
  exact hxl _ hl
 have Sxl:S x[x.length - 1]:=Sx _ (a_ _)
 refine aG (cY hsl ?_)
 refine aG (jw (g:=fun k=>y.getD k x[x.length - 1]) o c hk (fun k hk=> ?_) (fun k hk=> ?_) (fun k hk=> ?_) Sxl (fun k j hij hj=> ?_) (show y.length - 1 < y.length by omega) fun n2 hn2 r1 r2=> ?_)
 ·rw [hyl k hk]; simp [hk]
 ·simpa [hk]using Sy _ (a_ hk)
 ·simpa [hk]using fun z=>ne _ (a_ hl) _ (a_ hk) (Eq.symm z)
 ·have h1:k < y.length:=by omega
  simpa [h1,hj]using xx sy hij hj
 have r1': ∀u∈y.take n2,lt u x[x.length - 1]=true:=fun u hu=>by
  obtain⟨j,hj,rfl⟩:=aW.mp hu
  rw [bu]at hj
  rw [fP]
  have h1:j < y.length:=by omega
  simpa [h1]using r1 j (by omega)
 have r2': ∀u∈y.drop n2,lt x[x.length - 1] u=true:=fun u hu=>by
  obtain⟨j,hj,rfl⟩:=aW.mp hu
  rw [bI]at hj
  rw [d_]
  have h1:n2+j < y.length:=by omega
  have z:lt y[n2+j] x[x.length - 1]=false:=by simpa [h1]using r2 (n2+j) (by omega) h1
  exact o.wd _ _ (Sy _ (a_ h1)) Sxl (fun z=>ne _ (a_ hl) _ (a_ h1) z.symm) z
 have xlge: ∀v,lt x[x.length - 1] v=true-> ∀u∈x,lt u v=true:=fun v hv u hu=>by
  obtain⟨j,hj,rfl⟩:=aW.mp hu
  by_cases hz:j=x.length - 1
  ·subst hz; exact hv
  ·exact o.tr _ _ _ (xx sx (show j < x.length - 1 by omega) hl) hv
 refine cw (fun e1=> ?_) fun e1=> ?_
 ·have e1:(n2==0)=true:=e1
  have e1:=beq_iff_eq.mp e1
  subst e1
  exact aM (h (x ++ y) _ hk hf rfl (by rw [aV]; exact e) (dB _) (bX.mpr ⟨sx,sy,fun u hu v hv=>xlge v (r2' v hv) u hu⟩))
 have e1: ¬n2=0:=fun z=>e1 (beq_iff_eq.mpr z)
 have ex:((arrOf st).extract (pre.length+k) (pre.length+x.length)).toList=x.drop k:=by
  rw [xr,e]
  have:(pre ++ (x ++ (y ++ post))).take (pre.length+x.length)=pre ++ x:=by
   rw [<-aV,kl (by rw [ao]; omega),dY (by rw [ao]; omega)]
  rw [this,vK,fe (by omega)]
  simp
 have ey:((arrOf st).extract (pre.length+x.length) (pre.length+x.length+n2)).toList=y.take n2:=by
  rw [yf,e]
  have:(pre ++ (x ++ (y ++ post))).drop (pre.length+x.length)=y ++ post:=by
   rw [<-aV,vK,fe (by rw [ao]; omega),ao,kY]
   rfl
  rw [this,kl hn2]
 generalize hX:(arrOf st).extract (pre.length+k) (pre.length+x.length)=X at ex
 generalize hY:(arrOf st).extract (pre.length+x.length) (pre.length+x.length+n2)=Y at ey
 have szX:X.size=x.length - k:=by rw [<-aj,ex,bI]
 have szY:Y.size=n2:=by rw [<-aj,ey,bu]; omega
 have t:pv S lt X Y:=by
  refine⟨by rw [ex]; exact dq (mW _ _) sx,by rw [ey]; exact dq (mU _ _) sy,fun u hu=> ?_,fun u hu=> ?_,fun u hu v hv=> ?_,by omega,by omega,fun u hu=> ?_,fun u hu=> ?_⟩
  ·rw [ex]at hu; exact Sx u (ki hu)
  ·rw [ey]at hu; exact Sy u (ip hu)
  ·rw [ex]at hu
   rw [ey]at hv
   exact ne u (ki hu) v (ip hv)
  ·rw [ex]at hu
   have:Y[0]'(by omega)=y[0]:=by
    have q:Y.toList[0]'(by rw [aj]; omega)=(y.take n2)[0]'(by rw [bu]; omega):=by simp only [ey]
    rw [fP]at q
    simpa using q
   rw [this]
   exact g2' u hu
  ·rw [ey]at hu
   have:X[X.size - 1]'(by omega)=x[x.length - 1]:=by
    have q:X.toList[X.size - 1]'(by rw [aj]; omega)=(x.drop k)[X.size - 1]'(by rw [bI]; omega):=by simp only [ex]
    rw [d_]at q
    have e3:k+(X.size - 1)=x.length - 1:=by omega
    simp only [e3]at q
    simpa using q
   rw [this]
   exact r1' u hu
 have fin: ∀(res:Array Kd) (st2:cv),gR (setPending st (((cz st).setIfInBounds i (pre.length,x.length+y.length,pw)).eraseIdxIfInBounds (i+1))) st2->Res lt X Y res->
   wpS (model prog w) A E s (do
    modify fun s=>setArr s (res.toList.zipIdx.foldl (fun a (x:Kd×Nat)=>match x with | (p,j)=>a.setIfInBounds (pre.length+k+j) p) (arrOf s))
    let s<-get
    pure (fO s).isNone) Q st2:=fun res st2 L2 hr=>by
  refine aG (oI ?_)
  refine aG (oH ?_)
  have f2:fO st2=none:=L2.2.2.2.trans hf
  have a2:arrOf st2=arrOf st:=L2.2.1
  have hr1:res.toList.Perm (x.drop k ++ y.take n2):=by have:=hr.1; rw [ex,ey]at this; exact this
  have lr:res.toList.length=(x.length - k)+n2:=by rw [hr1.length_eq,ao,bI,bu]; omega
  have wd:pre.length+(x.length+(y.length+post.length))=(arrOf st).size:=by rw [<-aj,e]; simp [ao]
  have put:=Cn res.toList (arrOf st) (pre.length+k) 0 (by omega)
  show wpS (model prog w) A E s (pure (fO st2).isNone) Q _
  rw [f2]
  refine aM (h (x.take k ++ res.toList ++ y.drop n2) _ (L2.1.trans hk) f2 L2.2.2.1 ?_ ?_ ?_)
  ·show(res.toList.zipIdx.foldl _ (arrOf st2)).toList=_
   rw [a2]
   refine put.trans ?_
   rw [e,lr]
   have p1:(pre ++ (x ++ (y ++ post))).take (pre.length+k+0)=pre ++ x.take k:=by
    rw [Nat.add_zero,List.take_append,dY (by omega),jl,kl hk0]
   have p2:(pre ++ (x ++ (y ++ post))).drop (pre.length+k+0+(x.length - k+n2))=y.drop n2 ++ post:=by
    rw [show pre.length+k+0+(x.length - k+n2)=pre.length+(x.length+n2) by omega, <-List.drop_drop,vK,fe (ay _),kY,List.nil_append,lY, <-List.drop_drop,vK,fe (ay _),kY,List.nil_append,lY,vO hn2]
   rw [p1,p2]
   simp
  ·have:(x ++ y).Perm ((x.take k ++ x.drop k) ++ (y.take n2 ++ y.drop n2)):=by rw [bb,bb]
   refine gU ?_ this.symm
   rw [aV,aV]
   refine eK _ ?_
   rw [<-aV]
   exact hr1.append_right _
  ·refine HJ o (by rw [bb]; exact sx) (by rw [bb]; exact sy) hr.2 hr1 (fun u hu v hv=> ?_) fun u hu v hv=>xlge v (r2' v hv) u (ki hu)
   rw [bb]at hv
   exact y0le u (g1' u hu) v hv
 refine cw (fun _=> ?_) fun _=> ?_
 ·exact aG (yR o c hk t fun res st2 L2 hr=>fin res st2 L2 hr)
 ·exact aG (zg o c hk t fun res st2 L2 hr=>fin res st2 L2 hr)
end
def At(arr:Array Kd)(i:Nat):Kd:=arr.getD i (aR,aR)
theorem oR{arr:Array Kd}{i:Nat}(h:i < arr.size):arr[i]? =some (At arr i):=by unfold At; simp [h]
theorem nN{xs ys:Array Kd}{i j:Nat}(h:xs[i]? =ys[j]?):At xs i=At ys j:=by
 unfold At
 rw [kX,kX,h]
def Up(lt:Kd->Kd->Bool)(arr:Array Kd)(lo n:Nat):Prop:= ∀i j,i < j->j < n->lt (At arr (lo+i)) (At arr (lo+j))=true
structure SB(κ:kj)(a0:List Kd)(p:Array (Nat×Nat×Nat))(pre:List Kd)(st:cv):Prop where
 kind:kindOf st=κ
 failed:fO st=none
 perm:(arrOf st).toList.Perm a0
 pend:cz st=p
 pre:(arrOf st).toList.take pre.length=pre
section
variable {prog:aq}{w:World}{A:bA}{E:Value->ai->Prop}{s:ai}{κ:kj}{S:Kd->Prop}{lt:Kd->Kd->Bool}{st:cv}{a0 pre:List Kd}{p:Array (Nat×Nat×Nat)}
theorem SB.size(b:SB κ a0 p pre st):(arrOf st).size=a0.length:=by rw [<-aj,b.perm.length_eq]
theorem SB.ss(b:SB κ a0 p pre st)(hS: ∀x∈a0,S x){i:Nat}(h:i < a0.length):S (At (arrOf st) i):=by
 have hi:i < (arrOf st).size:=by rw [b.size]; exact h
 have:=oR hi
 refine hS _ (b.perm.mem_iff.mp ?_)
 rw [<-bD]at this
 exact bg this
theorem SB.ne(b:SB κ a0 p pre st)(nd:a0.Nodup){i j:Nat}(h:i < a0.length)(h':j < a0.length)(hij:i≠j):At (arrOf st) i≠At (arrOf st) j:=fun z=>by
 have nd':(arrOf st).toList.Nodup:=b.perm.symm.nodup nd
 have e1:(arrOf st).toList[i]? =some (At (arrOf st) i):=by rw [bD]; exact oR (by rw [b.size]; exact h)
 have e2:(arrOf st).toList[j]? =some (At (arrOf st) j):=by rw [bD]; exact oR (by rw [b.size]; exact h')
 obtain⟨h1,e1⟩:=aI.mp e1
 obtain⟨h2,e2⟩:=aI.mp e2
 exact hij ((iE nd').mp (by rw [e1,e2,z]))
theorem oU{i j:Nat}{Q:Option Bool->cv->Prop}(c:ue prog w A s κ S lt)(b:SB κ a0 p pre st)(hS: ∀x∈a0,S x)(hi:i < a0.length)(hj:j < a0.length)(h:Q (some (lt (At (arrOf st) i) (At (arrOf st) j))) st):wpS (model prog w) A E s (ltAt' i j) Q st:=by
 rw [ltAt'_eq]
 refine aG (oH ?_)
 refine aG (cY (oR (by rw [b.size]; exact hi)) ?_)
 refine aG (cY (oR (by rw [b.size]; exact hj)) ?_)
 exact ug c b.kind (b.ss hS hi) (b.ss hS hj) h
theorem SB.setArr(b:SB κ a0 p pre st){xs:Array Kd}(hp:xs.Perm (arrOf st))(hk: ∀i,i < pre.length->xs[i]? =(arrOf st)[i]?):SB κ a0 p pre (setArr st xs):=by
 refine⟨b.kind,b.failed,hp.toList.trans b.perm,b.pend, ?_⟩
 show xs.toList.take pre.length=pre
 have:=b.pre
 rw [<-this]
 apply eV
 intro i
 rw [r6,r6,this]
 split
 ·rename_i h; rw [bD,bD,hk i h]
 ·rfl
theorem zZ{lo nrem n:Nat}{f:Nat->Option (Option Nat)×Nat->StateT cv Sem (ForInStep (Option (Option Nat)×Nat))}{Q:Option (Option Nat)×Nat->cv->Prop}(o:oo S lt)(nd:a0.Nodup)(hS: ∀x∈a0,S x)(b:SB κ a0 p pre st)(hn:lo+nrem<=a0.length)(h1:1<=n)(h2:n<=nrem)
  (hf: ∀x m (Q':ForInStep (Option (Option Nat)×Nat)->cv->Prop),m < nrem->1<=m->(lt (At (arrOf st) (lo+m)) (At (arrOf st) (lo+m - 1))=true->Q' (.done (none,m)) st)->(lt (At (arrOf st) (lo+m)) (At (arrOf st) (lo+m - 1))=false->Q' (.yield (none,m+1)) st)->wpS (model prog w) A E s (f x (none,m)) Q' st)
  (u:Up lt (arrOf st) lo n)(h: ∀m,n<=m->m<=nrem->Up lt (arrOf st) lo m->(m=nrem\/lt (At (arrOf st) (lo+m)) (At (arrOf st) (lo+m - 1))=true)->Q (none,m) st):wpS (model prog w) A E s (forIn [n:nrem] (none,n) f) Q st:=by
 refine dJ (I:=fun x c st'=>st'=st/\c=(none,x)/\n<=x/\x<=nrem/\Up lt (arrOf st) lo x) ?_ ?_ ⟨rfl,rfl,ay _,h2,u⟩
 ·rintro x c st' hx1 hx2 ⟨rfl,rfl,h3,h4,u⟩
  refine hf x x _ hx2 (by omega) (fun e=>h x h3 h4 u (.inr e)) fun e=>⟨rfl,rfl,by omega,by omega,fun i j hij hj=> ?_⟩
  by_cases z:j < x
  ·exact u i j hij z
  ·have ej:j=x:=by omega
   subst ej
   have l:lt (At (arrOf st') (lo+j - 1)) (At (arrOf st') (lo+j))=true:=o.wd _ _ (b.ss hS (by omega)) (b.ss hS (by omega)) (b.ne nd (by omega) (by omega) (by omega)) e
   by_cases z2:i=j - 1
   ·subst z2
    rw [show lo+(j - 1)=lo+j - 1 by omega]
    exact l
   ·refine o.tr _ _ _ (u i (j - 1) (by omega) (by omega)) ?_
    rw [show lo+(j - 1)=lo+j - 1 by omega]
    exact l
 ·rintro c st' ⟨rfl,rfl,h3,h4,u⟩
  rw [Nat.max_eq_right (by omega)]at h3 h4 u ⊢
  exact h nrem h2 (ay _) u (.inl rfl)
def Down(lt:Kd->Kd->Bool)(arr:Array Kd)(lo n:Nat):Prop:= ∀i j,i < j->j < n->lt (At arr (lo+j)) (At arr (lo+i))=true
theorem Jv{i j:Nat}{Q:Unit->cv->Prop}(h:Q () (setArr st (mirror (arrOf st) i j ((j - i) / 2)))):wpS (model prog w) A E s (reverseSlice' i j) Q st:=oI h
theorem HD{i j:Nat}{Q:Unit->cv->Prop}(h:Q () (setArr st (bubble (arrOf st) i (i - j)))):wpS (model prog w) A E s (moveDown' i j) Q st:=oI h
set_option maxHeartbeats 4000000 in
theorem De{nrem:Nat}{Q:Option Nat->cv->Prop}(o:oo S lt)(c:ue prog w A s κ S lt)(nd:a0.Nodup)(hS: ∀x∈a0,S x)(b:SB κ a0 p pre st)(hn:pre.length+nrem<=a0.length)(h1:1<=nrem)
  (h: ∀m st',SB κ a0 p pre st'->1<=m->m<=nrem->Up lt (arrOf st') pre.length m->Q (some m) st'):wpS (model prog w) A E s (countRun' pre.length nrem) Q st:=by
 refine aG (zZ (lo:=pre.length) o nd hS b hn (ay 1) h1 (fun x m Q' hm hm1 k1 k2=> ?_) (fun i j hij hj=>by omega) fun m hm1 hm2 um hor=> ?_)
 ·refine aG (oU c b hS (by omega) (by omega) ?_)
  cases e:lt (At (arrOf st) (pre.length+m)) (At (arrOf st) (pre.length+m - 1))with
  | true=>exact aM (k1 e)
  | false=>exact aM (k2 e)
 refine cw (fun e=>aM (h m st b hm1 hm2 um)) fun e=> ?_
 have e: ¬m=nrem:=fun z=>e (beq_iff_eq.mpr z)
 have hlt:=hor.resolve_left e
 extract_lets n2 neq0 jp
 have q2:m+1=n2:=rfl
 have q0:0=neq0:=rfl
 clear_value n2 neq0
 subst q2 q0
 refine cw (fun e1=> ?_) fun e1=> ?_
 ·have e1:m > 1:=e1
  refine aG (oU c b hS (by omega) (show pre.length+m - 1 < a0.length by omega) ?_)
  have z:=um 0 (m - 1) (by omega) (by omega)
  rw [show pre.length+(m - 1)=pre.length+m - 1 by omega,Nat.add_zero]at z
  rw [z]
  exact aM (h m st b hm1 hm2 um)
 have e1: ¬m > 1:=e1
 have em:m=1:=by omega
 subst em
 refine aG (sY (fw ⟨rfl, ?_⟩))
 refine aG (e_ (dJ (I:=fun x c st'=>st'=st/\c=(none,x,0)/\2<=x/\x<=nrem/\Down lt (arrOf st) pre.length x) (Q:=fun c st'=>st'=st/\ ∃m,c=(none,m,0)/\2<=m/\m<=nrem/\Down lt (arrOf st) pre.length m) ?_ ?_ ⟨rfl,rfl,ay _,by omega,fun i j hij hj=> ?_⟩) ?_)
 ·rintro x c' st' hx1 hx2 ⟨rfl,rfl,h3,h4,d⟩
  refine aG (oU c b hS (show pre.length+x < a0.length by omega) (show pre.length+x - 1 < a0.length by omega) ?_)
  cases eq:lt (At (arrOf st') (pre.length+x)) (At (arrOf st') (pre.length+x - 1))with
  | true=>
   refine cw (fun _=> ?_) fun z=>absurd rfl z
   refine cw (fun z=>absurd (show(0:Nat) > 0 from z) (by omega)) fun _=>aM ⟨rfl,rfl,by omega,by omega,fun i j hij hj=> ?_⟩
   by_cases z:j < x
   ·exact d i j hij z
   ·have ej:j=x:=by omega
    subst ej
    by_cases z2:i=j - 1
    ·subst z2
     rw [show pre.length+(j - 1)=pre.length+j - 1 by omega]
     exact eq
    ·refine o.tr _ _ _ eq ?_
     have:=d i (j - 1) (by omega) (by omega)
     rw [show pre.length+(j - 1)=pre.length+j - 1 by omega]at this
     exact this
  | false=>
   refine cw (fun z=>by cases z) fun _=> ?_
   refine aG (oU c b hS (show pre.length+x - 1 < a0.length by omega) (show pre.length+x < a0.length by omega) ?_)
   rw [o.wd _ _ (b.ss hS (by omega)) (b.ss hS (by omega)) (b.ne nd (by omega) (by omega) (by omega)) eq]
   exact aM ⟨rfl,x,rfl,h3,h4,d⟩
 ·rintro c' st' ⟨rfl,rfl,h3,h4,d⟩
  exact⟨rfl,_,rfl,h3,h4,d⟩
 ·have ei:i=0:=by omega
  have ej:j=1:=by omega
  subst ei ej
  exact hlt
 ·rintro c' st' ⟨rfl,m,rfl,h3,h4,d⟩
  refine cw (fun z=>absurd (show(0:Nat) > 0 from z) (by omega)) fun _=> ?_
  refine aG (Jv ?_)
  have hsz:=b.size
  have gm:=fun k=>getElem?_mirror_all (xs:=arrOf st') (i:=pre.length) (j:=pre.length+m) (by omega) k
  have b2:SB κ a0 p pre (setArr st' (mirror (arrOf st') pre.length (pre.length+m) ((pre.length+m - pre.length) / 2))):=b.setArr (mirror_perm _ _ _ _) fun k hk=>by rw [gm k,if_neg (by omega)]
  have u2:Up lt (mirror (arrOf st') pre.length (pre.length+m) ((pre.length+m - pre.length) / 2)) pre.length m:=fun i j hij hj=>by
   have e1:=gm (pre.length+i)
   have e2:=gm (pre.length+j)
   rw [if_pos (by omega),show pre.length+(pre.length+m) - 1 - (pre.length+i)=pre.length+(m - 1 - i) by omega]at e1
   rw [if_pos (by omega),show pre.length+(pre.length+m) - 1 - (pre.length+j)=pre.length+(m - 1 - j) by omega]at e2
   rw [nN e1,nN e2]
   exact d _ _ (by omega) (by omega)
  refine aG (zZ (lo:=pre.length) o nd hS b2 hn (show 1<=m by omega) h4 (fun x m Q' hm hm1 k1 k2=> ?_) u2 fun m2 hm1 hm2 um hor=> ?_)
  ·refine aG (oU c b2 hS (by omega) (by omega) ?_)
   cases e:lt (At (arrOf (setArr st' (mirror (arrOf st') pre.length (pre.length+_) ((pre.length+_ - pre.length) / 2)))) (pre.length+m)) (At (arrOf (setArr st' (mirror (arrOf st') pre.length (pre.length+_) ((pre.length+_ - pre.length) / 2)))) (pre.length+m - 1))with
   | true=>exact aM (k1 e)
   | false=>exact aM (k2 e)
  ·exact aM (h m2 _ b2 (bE (show 1<=m by omega) hm1) hm2 um)
set_option maxHeartbeats 4000000 in
theorem A1{n ok:Nat}{Q:Bool->cv->Prop}(o:oo S lt)(c:ue prog w A s κ S lt)(nd:a0.Nodup)(hS: ∀x∈a0,S x)(b:SB κ a0 p pre st)(hn:pre.length+n<=a0.length)(h1:1<=ok)(h2:ok<=n)(u:Up lt (arrOf st) pre.length ok)
  (h: ∀st',SB κ a0 p pre st'->Up lt (arrOf st') pre.length n->Q true st'):wpS (model prog w) A E s (binarySort' pre.length n ok) Q st:=by
 refine aG (e_ (dJ (I:=fun k c st'=>c=(none,())/\SB κ a0 p pre st'/\ok<=k/\k<=n/\Up lt (arrOf st') pre.length k) (Q:=fun c st'=>c=(none,())/\SB κ a0 p pre st'/\Up lt (arrOf st') pre.length n) ?_ ?_ ⟨rfl,b,by omega,by omega,by rw [Nat.max_eq_left h1]; exact u⟩) ?_)
 ·rintro k c' st1 hk1 hk2 ⟨rfl,b1,k3,k4,u1⟩
  have key: ∀i,i < k->lt (At (arrOf st1) (pre.length+i)) (At (arrOf st1) (pre.length+k))= !lt (At (arrOf st1) (pre.length+k)) (At (arrOf st1) (pre.length+i)):=fun i hi=>by
   cases e:lt (At (arrOf st1) (pre.length+i)) (At (arrOf st1) (pre.length+k))with
   | true=>rw [o.Hz _ _ e]; rfl
   | false=>rw [o.wd _ _ (b1.ss hS (by omega)) (b1.ss hS (by omega)) (b1.ne nd (by omega) (by omega) (by omega)) e]; rfl
  refine aG (tP (n:=k) (p:=fun i=> !lt (At (arrOf st1) (pre.length+k)) (At (arrOf st1) (pre.length+i))) (fun x l r Q' hr j1 j2 j3=> ?_) (fun i j hij hj e=> ?_) (bN _) (ay _) (fun i hi=>absurd hi (by omega)) (fun i hi hi2=>absurd hi (by omega)) fun q hq a1 a2=> ?_)
  ·refine cw (fun z=>aM (j1 z)) fun z=> ?_
   have z:l < r:=by have z: ¬l>=r:=z; omega
   have em:(l+r) / 2=l+(r - l) / 2:=by omega
   have hlt:l+(r - l) / 2 < r:=by omega
   refine aG (oU c b1 hS (show pre.length+k < a0.length by omega) (show pre.length+(l+r) / 2 < a0.length by omega) ?_)
   cases e:lt (At (arrOf st1) (pre.length+k)) (At (arrOf st1) (pre.length+(l+r) / 2))with
   | true=>
    have:=j3 z (by rw [<-em,e]; rfl)
    rw [<-em]at this
    exact aM this
   | false=>
    have:=j2 z (by rw [<-em,e]; rfl)
    rw [<-em]at this
    exact aM this
  ·rcases Nat.lt_or_eq_of_le hij with z | rfl
   ·rw [<-key i (by omega)]
    rw [<-key j hj]at e
    exact o.tr _ _ _ (u1 i j z hj) e
   ·exact e
  ·refine aG (HD (aM ?_))
   have hsz:=b1.size
   have ed:pre.length+k - (pre.length+q)=k - q:=by omega
   have gb:=fun j=>getElem?_bubble (xs:=arrOf st1) (src:=pre.length+k) (by omega) (k - q) (by omega) j
   have es:pre.length+k - (k - q)=pre.length+q:=by omega
   rw [es]at gb
   show _=_/\SB κ a0 p pre (setArr st1 (bubble (arrOf st1) (pre.length+k) (pre.length+k - (pre.length+q))))/\_/\_/\Up lt (bubble (arrOf st1) (pre.length+k) (pre.length+k - (pre.length+q))) pre.length (k+1)
   rw [ed]
   refine⟨rfl,b1.setArr (bubble_perm _ _ _) fun j hj=>by rw [gb j,if_neg (by omega),if_neg (by omega)],by omega,by omega,fun i j hij hj=> ?_⟩
   have e1:=gb (pre.length+i)
   have e2:=gb (pre.length+j)
   have lo_: ∀i,i < q->lt (At (arrOf st1) (pre.length+i)) (At (arrOf st1) (pre.length+k))=true:=fun i hi=>by rw [key i (by omega)]; exact a1 i hi
   have hi_: ∀i,q<=i->i < k->lt (At (arrOf st1) (pre.length+k)) (At (arrOf st1) (pre.length+i))=true:=fun i h1 h2=>by simpa using a2 i h1 h2
   rcases IX j q with z | z | z
   ·rw [if_neg (by omega),if_neg (by omega)]at e1 e2
    rw [nN e1,nN e2]
    exact u1 i j hij (by omega)
   ·rw [if_neg (by omega),if_neg (by omega)]at e1
    rw [if_pos (by omega)]at e2
    rw [nN e1,nN e2]
    exact lo_ i (by omega)
   ·rw [if_neg (by omega),if_pos (by omega),show pre.length+j - 1=pre.length+(j - 1) by omega]at e2
    rcases IX i q with y | y | y
    ·rw [if_neg (by omega),if_neg (by omega)]at e1
     rw [nN e1,nN e2]
     exact u1 i (j - 1) (by omega) (by omega)
    ·rw [if_pos (by omega)]at e1
     rw [nN e1,nN e2]
     exact hi_ _ (by omega) (by omega)
    ·rw [if_neg (by omega),if_pos (by omega),show pre.length+i - 1=pre.length+(i - 1) by omega]at e1
     rw [nN e1,nN e2]
     exact u1 (i - 1) (j - 1) (by omega) (by omega)
 ·rintro c' st1 ⟨rfl,b1,k3,k4,u1⟩
  have e:max (max ok 1) n=n:=by omega
  rw [e]at u1
  exact⟨rfl,b1,u1⟩
 ·rintro c' st1 ⟨rfl,b1,u1⟩
  exact aM (h st1 b1 u1)
end
abbrev Run:=List Kd×Nat
def flat(rs:List Run):List Kd:=(rs.map (·.1)).flatten
def iR:Nat->List Run->List (Nat×Nat×Nat)
 | _, []=> []
 | n,(x,pw)::r=>(n,x.length,pw)::iR (n+x.length) r
theorem JL{α:Type}(l m:List α)(a c:α):(l ++ a::m).set l.length c=l ++ c::m:=by simp
theorem Du{α:Type}(l m:List α)(a b:α):(l ++ a::b::m).eraseIdx (l.length+1)=l ++ a::m:=by
 rw [List.eraseIdx_append_of_length_le (by omega),jl]
 rfl
theorem zU{α:Type}(l:List α)(a:α)(f:α->α):(l ++ [a]).modify ((l ++ [a]).length - 1) f=l ++ [f a]:=by
 rw [ao,fz,Nat.add_sub_cancel]
 induction l with
 | nil=>rfl
 | cons b l ih=>exact congrArg (b:: ·) ih
theorem jN(a b:List Run):flat (a ++ b)=flat a ++ flat b:=by unfold flat; rw [bC,q9]
theorem e9(x:List Kd)(pw:Nat)(b:List Run):flat ((x,pw)::b)=x ++ flat b:=by unfold flat; rw [bx,cJ]
theorem ko: ∀(a b:List Run) (n:Nat),iR n (a ++ b)=iR n a ++ iR (n+(flat a).length) b
 | [],b,n=>by simp [iR,flat]
 | (x,pw)::a,b,n=>by
  rw [nZ,iR,iR,ko a b,nZ,e9,ao,nK]
theorem oV: ∀(a:List Run) (n:Nat),(iR n a).length=a.length
 | [],n=>rfl
 | (x,pw)::a,n=>by rw [iR,aL,aL,oV a]
structure RI(κ:kj)(lt:Kd->Kd->Bool)(a0:List Kd)(rs:List Run)(rest:List Kd)(st:cv):Prop where
 kind:kindOf st=κ
 failed:fO st=none
 perm:(arrOf st).toList.Perm a0
 arr:(arrOf st).toList=flat rs ++ rest
 pend:cz st=(iR 0 rs).toArray
 good: ∀r∈rs,0 < r.1.length/\mD lt r.1
section
variable {prog:aq}{w:World}{A:bA}{E:Value->ai->Prop}{s:ai}{κ:kj}{S:Kd->Prop}{lt:Kd->Kd->Bool}{st:cv}{a0 rest:List Kd}{rs:List Run}
theorem RI.mw(b:RI κ lt a0 rs rest st):rs.length<=(flat rs).length:=by
 have g:=b.good
 clear b
 induction rs with
 | nil=>exact bN _
 | cons r rs ih=>
  obtain⟨x,pw⟩:=r
  have:=ih fun r hr=>g r (.tail _ hr)
  have:=(g (x,pw) (.head _)).1
  rw [e9,ao,aL]
  dsimp only at this
  omega
theorem RI.merge(o:oo S lt)(c:ue prog w A s κ S lt)(nd:a0.Nodup)(hS: ∀x∈a0,S x)(b:RI κ lt a0 rs rest st){i:Nat}(hi:i+1 < rs.length){Q:Bool->cv->Prop}
  (h: ∀(rs':List Run) (st':cv),RI κ lt a0 rs' rest st'->rs'.length+1=rs.length->(flat rs').length=(flat rs).length->Q true st'):wpS (model prog w) A E s (mergeAt' i) Q st:=by
 obtain⟨r1,x,pw,y,pw2,r2,rfl,hl⟩: ∃r1 x pw y pw2 r2,rs=r1 ++ (x,pw)::(y,pw2)::r2/\r1.length=i:=by
  have h0:i < rs.length:=by omega
  refine⟨rs.take i,rs[i].1,rs[i].2,rs[i+1].1,rs[i+1].2,rs.drop (i+2), ?_,by rw [bu]; omega⟩
  show rs=rs.take i ++ rs[i]::rs[i+1]::rs.drop (i+2)
  rw [<-mM hi, <-mM h0,bb]
 subst hl
 have gx:=b.good (x,pw) (by simp)
 have gy:=b.good (y,pw2) (by simp)
 have e:(arrOf st).toList=flat r1 ++ (x ++ (y ++ (flat r2 ++ rest))):=by rw [b.arr,jN,e9,e9]; simp
 have nd':(flat r1 ++ (x ++ (y ++ (flat r2 ++ rest)))).Nodup:=by rw [<-e]; exact b.perm.symm.nodup nd
 have mem: ∀u,u∈(arrOf st).toList->S u:=fun u hu=>hS u (b.perm.mem_iff.mp hu)
 have pe:cz st=(iR 0 r1 ++ ((flat r1).length,x.length,pw)::((flat r1).length+x.length,y.length,pw2)::iR ((flat r1).length+x.length+y.length) r2).toArray:=by
  rw [b.pend,ko,iR,iR,BH]
 have lp:=oV r1 0
 refine zP (pre:=flat r1) (x:=x) (y:=y) (post:=flat r2 ++ rest) o c b.kind b.failed (pw:=pw) (pw2:=pw2) ?_ ?_ e gx.1 gy.1 gx.2 gy.2 (fun u hu=>mem u (by rw [e]; simp [hu])) (fun u hu=>mem u (by rw [e]; simp [hu])) (fun u hu v hv z=> ?_) fun z st' k1 k2 k3 k4 k5 k6=> ?_
 ·rw [pe,pB,fv (by omega),lp,kY]
  rfl
 ·rw [pe,pB,fv (by omega),lp,jl]
  rfl
 ·subst z
  have:=(jE.mp (jE.mp nd').2.1).2.2 u hu u (by simp [hv])
  exact this rfl
 ·have lz:z.length=x.length+y.length:=by rw [k5.length_eq,ao]
  refine h (r1 ++ (z,pw)::r2) st' ⟨k1,k2, ?_, ?_, ?_, ?_⟩ ?_ ?_
  ·rw [k4]
   refine gU ?_ b.perm
   rw [e]
   refine eK _ ?_
   rw [<-aV x y]
   exact k5.append_right _
  ·rw [k4,jN,e9]
   simp
  ·rw [k3,pe,ko,iR,BH,lz, <-lp]
   apply j7.mp
   rw [Array.toList_eraseIdxIfInBounds,Array.toList_setIfInBounds]
   rw [JL,Du,nK]
  ·intro r hr
   rcases bP.mp hr with hr | hr
   ·exact b.good r (by simp [hr])
   ·rcases aO.mp hr with rfl | hr
    ·have gx1:0 < x.length:=gx.1
     exact⟨show 0 < z.length by omega,k6⟩
    ·exact b.good r (by simp [hr])
  ·simp
   omega
  ·rw [jN,e9,jN,e9,e9]
   simp [lz,nK]
theorem RI.sb(b:RI κ lt a0 rs rest st):SB κ a0 (cz st) (flat rs) st:=⟨b.kind,b.failed,b.perm,rfl,by rw [b.arr,kl (ay _),dY (ay _)]⟩
theorem RI.next(b:RI κ lt a0 rs rest st){st':cv}{n:Nat}(b':SB κ a0 (cz st) (flat rs) st')(hn:(flat rs).length+n<=a0.length)(u:Up lt (arrOf st') (flat rs).length n): ∃x rest',RI κ lt a0 rs (x ++ rest') st'/\x.length=n/\mD lt x:=by
 have hsz:=b'.size
 refine⟨((arrOf st').toList.drop (flat rs).length).take n,((arrOf st').toList.drop (flat rs).length).drop n,⟨b'.kind,b'.failed,b'.perm, ?_,b'.pend.trans b.pend,b.good⟩, ?_, ?_⟩
 ·rw [bb]
  conv=>rhs; lhs; rw [<-b'.pre]
  rw [bb]
 ·rw [bu,bI,aj]; omega
 ·rw [mD,cM]
  intro i j hi hj hij
  rw [bu,bI,aj]at hi hj
  rw [fP,fP,d_,d_]
  have g: ∀k (hk:(flat rs).length+k < (arrOf st').toList.length),(arrOf st').toList[(flat rs).length+k]=At (arrOf st') ((flat rs).length+k):=fun k hk=>by
   have e:=oR (arr:=arrOf st') (i:=(flat rs).length+k) (by rw [aj]at hk; exact hk)
   rw [<-bD,ah hk]at e
   exact aH e
  rw [g,g]
  exact u i j hij (by omega)
theorem RI.push{x rest':List Kd}(b:RI κ lt a0 rs (x ++ rest') st)(hx:0 < x.length)(sx:mD lt x){lo:Nat}(hl:lo=(flat rs).length):RI κ lt a0 (rs ++ [(x,0)]) rest' (setPending st ((cz st).push (lo,x.length,0))):=by
 refine⟨b.kind,b.failed,b.perm, ?_, ?_,fun r hr=> ?_⟩
 ·show(arrOf st).toList=_
  rw [b.arr,jN,e9]
  simp [flat]
 ·show(cz st).push _=_
  rw [b.pend,ko,iR,iR,hl]
  simp
 ·rcases bP.mp hr with hr | hr
  ·exact b.good r hr
  ·rcases aN.mp hr with rfl
   exact⟨hx,sx⟩
theorem RI.power(b:RI κ lt a0 rs rest st)(pw:Nat): ∃rs',RI κ lt a0 rs' rest (setPending st ((cz st).modify ((cz st).size - 1) fun(x:Nat×Nat×Nat)=>match x with | (s,l,_)=>(s,l,pw)))/\(flat rs').length=(flat rs).length:=by
 rcases List.eq_nil_or_concat rs with rfl | ⟨r,q,rfl⟩
 ·refine⟨[],⟨b.kind,b.failed,b.perm,b.arr, ?_,b.good⟩,rfl⟩
  generalize hY:(cz st).modify ((cz st).size - 1) _=Y
  show Y=_
  rw [<-hY,b.pend]
  rfl
 ·obtain⟨x,p⟩:=q
  rw [List.concat_eq_append]at b ⊢
  refine⟨r ++ [(x,pw)],⟨b.kind,b.failed,b.perm, ?_, ?_,fun u hu=> ?_⟩,by simp [jN,e9]⟩
  ·show(arrOf st).toList=_
   rw [b.arr]
   simp [jN,e9]
  ·generalize hY:(cz st).modify ((cz st).size - 1) _=Y
   show Y=_
   rw [<-hY,b.pend,ko,ko,iR,iR,iR]
   apply j7.mp
   rw [Array.toList_modify,aC,zU]
   rfl
  ·rcases bP.mp hu with hu | hu
   ·exact b.good u (by simp [hu])
   ·rcases aN.mp hu with rfl
    exact b.good (x,p) (by simp)
set_option maxHeartbeats 4000000 in
theorem HV{Q:Unit->cv->Prop}(o:oo S lt)(c:ue prog w A s κ S lt)(nd:a0.Nodup)(hS: ∀x∈a0,S x)(hk:kindOf st=κ)(hf:fO st=none)(hp:cz st= #[])(ha:(arrOf st).toList=a0)
  (h: ∀st',fO st'=none->(arrOf st').toList.Perm a0->mD lt (arrOf st').toList->Q () st'):wpS (model prog w) A E s sortRuns' Q st:=by
 have hsz:(arrOf st).size=a0.length:=by rw [<-aj,ha]
 rw [sortRuns'_eq]
 refine aG (oH ?_)
 rw [hsz]
 refine aG (e_ (dJ (I:=fun x c st'=> ∃rs rest,c=(none,(flat rs).length)/\RI κ lt a0 rs rest st'/\x<=(flat rs).length)
  (Q:=fun c st'=> ∃rs rest,c=(none,(flat rs).length)/\RI κ lt a0 rs rest st'/\a0.length<=(flat rs).length) ?_ ?_ ⟨[],a0,rfl,⟨hk,hf,by rw [ha],by rw [ha]; rfl,hp,fun r hr=>by cases hr⟩,bN _⟩) ?_)
 ·rintro x c' st1 _ hx ⟨rs,rest,rfl,b,hlo⟩
  refine cw (fun e=>aM ⟨rs,rest,rfl,b,e⟩) fun e=> ?_
  have e:(flat rs).length < a0.length:=by have e: ¬(flat rs).length>=a0.length:=e; omega
  refine aG (De (pre:=flat rs) o c nd hS b.sb (by omega) (by omega) fun m st2 b2 m1 m2 u2=> ?_)
  dsimp -zeta only
  extract_lets n1 jp force n2
  have J: ∀(n:Nat) (st3:cv),SB κ a0 (cz st1) (flat rs) st3->1<=n->(flat rs).length+n<=a0.length->Up lt (arrOf st3) (flat rs).length n->wpS (model prog w) A E s (jp () n) (fun r st'=>match r with
    | .done c'=> ∃rs rest,c'=(none,(flat rs).length)/\RI κ lt a0 rs rest st'/\a0.length<=(flat rs).length
    | .yield c'=> ∃rs rest,c'=(none,(flat rs).length)/\RI κ lt a0 rs rest st'/\x+1<=(flat rs).length) st3:=fun n st3 b3 n1 n2 u3=>by
   obtain⟨y,rest',b4,ly,sy⟩:=b.next b3 n2 u3
   refine aG (oH ?_)
   extract_lets lo2 jp2
   have J2: ∀(st4:cv) (rs4:List Run),RI κ lt a0 rs4 (y ++ rest') st4->(flat rs4).length=(flat rs).length->wpS (model prog w) A E s (jp2 ()) (fun r st'=>match r with
    | .done c'=> ∃rs rest,c'=(none,(flat rs).length)/\RI κ lt a0 rs rest st'/\a0.length<=(flat rs).length
    | .yield c'=> ∃rs rest,c'=(none,(flat rs).length)/\RI κ lt a0 rs rest st'/\x+1<=(flat rs).length) st4:=fun st4 rs4 b5 l5=>by
    refine aG (oI (aM ?_))
    have lf:(flat (rs4 ++ [(y,0)])).length=(flat rs).length+n:=by rw [jN,e9,ao,ao,l5,ly]; rfl
    refine⟨rs4 ++ [(y,0)],rest',by rw [lf], ?_,by omega⟩
    have:=b5.push (by omega) sy l5.symm
    rw [ly]at this
    exact this
   cases hb:(cz st3).back? with
   | none=>exact J2 st3 rs b4 rfl
   | some q=>
    obtain⟨s1,m1,m2⟩:=q
    refine aG (e_ (dJ (I:=fun _ c st'=>c=(none,())/\ ∃rs4,RI κ lt a0 rs4 (y ++ rest') st'/\(flat rs4).length=(flat rs).length) (Q:=fun c st'=>c=(none,())/\ ∃rs4,RI κ lt a0 rs4 (y ++ rest') st'/\(flat rs4).length=(flat rs).length) ?_ (fun _ _ z=>z) ⟨rfl,rs,b4,rfl⟩) ?_)
    ·rintro x' c' st5 _ hx' ⟨rfl,rs4,b5,l5⟩
     refine aG (oH ?_)
     dsimp only
     have hps:(cz st5).size=rs4.length:=by rw [b5.pend,aC,oV]
     by_cases h1:(cz st5).size > 1
     ·rw [if_pos h1]
      cases hq:(cz st5)[(cz st5).size - 2]? with
      | none=>exact aM ⟨rfl,rs4,b5,l5⟩
      | some q=>
       obtain⟨q1,q2,older⟩:=q
       refine cw (fun _=>aM ⟨rfl,rs4,b5,l5⟩) fun _=> ?_
       rw [hps]
       refine aG (b5.merge o c nd hS (by omega) fun rs' st' b' k1 k2=> ?_)
       exact aM ⟨rfl,rs',b',by omega⟩
     ·rw [if_neg h1]
      exact aM ⟨rfl,rs4,b5,l5⟩
    ·rintro c' st5 ⟨rfl,rs4,b5,l5⟩
     refine aG (oI ?_)
     obtain⟨rs6,b6,l6⟩:=b5.power (power' a0.length (2 * s1+m1) (2 * s1+m1+m1+n) a0.length)
     exact J2 _ rs6 b6 (by omega)
  have m2:m<=a0.length - (flat rs).length:=m2
  refine cw (fun e1=> ?_) fun e1=> ?_
  ·refine aG (sY (fw ⟨rfl, ?_⟩))
   have e1:m < minRun' a0.length a0.length 0:=e1
   refine aG (A1 (n:=force) o c nd hS b2 (show(flat rs).length+min (a0.length - (flat rs).length) (minRun' a0.length a0.length 0)<=a0.length by omega) m1 (show m<=min (a0.length - (flat rs).length) (minRun' a0.length a0.length 0) by omega) u2 fun st3 b3 u3=> ?_)
   exact e_ (J force st3 b3 (show 1<=min (a0.length - (flat rs).length) (minRun' a0.length a0.length 0) by omega) (show(flat rs).length+min (a0.length - (flat rs).length) (minRun' a0.length a0.length 0)<=a0.length by omega) u3) fun r st' z=>by cases r <;> exact z
  ·exact e_ (J m st2 b2 m1 (by omega) u2) fun r st' z=>by cases r <;> exact z
 ·rintro c' st1 ⟨rs,rest,rfl,b,hlo⟩
  exact⟨rs,rest,rfl,b,by omega⟩
 ·rintro c' st1 ⟨rs,rest,rfl,b,hlo⟩
  have hre:rest= []:=by
   have:=b.perm.length_eq
   rw [b.arr,ao]at this
   exact nX.mp (by omega)
  subst hre
  have hfl:(flat rs).length=a0.length:=by
   have:=b.perm.length_eq
   rw [b.arr,ao]at this
   simpa using this
  have hfew:=b.mw
  refine aG (e_ (dJ (I:=fun x c st'=>c=(none,())/\ ∃rs,RI κ lt a0 rs [] st'/\(rs.length+x<=a0.length\/rs.length<=1)) (Q:=fun c st'=>c=(none,())/\ ∃rs,RI κ lt a0 rs [] st'/\rs.length<=1) ?_ ?_ ⟨rfl,rs,b, .inl (by omega)⟩) ?_)
  ·rintro x c' st2 _ hx ⟨rfl,rs,b,hl⟩
   refine aG (oH ?_)
   have hps:(cz st2).size=rs.length:=by rw [b.pend,aC,oV]
   dsimp only
   rw [hps]
   refine cw (fun e=>aM ⟨rfl,rs,b,e⟩) fun e=> ?_
   have e: ¬rs.length<=1:=e
   refine aG (b.merge o c nd hS ?_ fun rs' st' b' l1 l2=> ?_)
   ·by_cases z0:rs.length - 2 > 0
    ·rw [if_pos z0]
     split <;> omega
    ·rw [if_neg z0,if_neg (by simp)]
     omega
   ·exact aM ⟨rfl,rs',b', .inl (by omega)⟩
  ·rintro c' st2 ⟨rfl,rs,b,hl⟩
   exact⟨rfl,rs,b,by rcases hl with hl | hl <;> omega⟩
  ·rintro c' st2 ⟨rfl,rs,b,hl⟩
   refine aM (h st2 b.failed b.perm ?_)
   rw [b.arr,bq]
   match rs,hl,b with
   | [],_,_=>exact eU
   | [(x,pw)],_,b=>
    rw [e9]
    have:=(b.good (x,pw) (.head _)).2
    simpa [flat]using this
end
abbrev ic:=List (List Int)
section
variable {prog:aq}{w:World}
abbrev T1(prog:aq)(w:World)(h:Heap)(r:List Int)(b:Addr):Prop:=(lB (fX prog w)).is h r b
inductive sI(prog:aq)(w:World)(h:Heap):ic->List Value->Prop
 | nil:sI prog w h [] []
 | cons {r:List Int} {b:Addr} {rs:ic} {vs:List Value}:T1 prog w h r b->sI prog w h rs vs->sI prog w h (r::rs) (.ref b::vs)
def T2(prog:aq)(w:World)(h:Heap)(rs:ic)(a:Addr):Prop:= ∃o items n,h.get? a=some o/\o.cls= .type "tuple"/\o.data= .seq items n/\sI prog w h rs items.toList
theorem T1.keep{h h':Heap}{r:List Int}{b:Addr}(x:T1 prog w h r b)(k: ∀c o,(o.cls= .type "tuple"/\ ∃items n,o.data= .seq items n)->h.get? c=some o->h'.get? c=some o):T1 prog w h' r b:=
 let⟨o,items,n,h1,h2,h3⟩:=x; ⟨o,items,n,k b o ⟨h2,_,_,h3.1⟩ h1,h2,h3⟩
theorem sI.keep{h h':Heap}(k: ∀c o,(o.cls= .type "tuple"/\ ∃items n,o.data= .seq items n)->h.get? c=some o->h'.get? c=some o): ∀{rs:ic} {vs:List Value},sI prog w h rs vs->sI prog w h' rs vs
 | _,_, .nil=> .nil
 | _,_, .cons x t=> .cons (T1.keep x k) (sI.keep k t)
theorem T2.keep{h h':Heap}{rs:ic}{a:Addr}(x:T2 prog w h rs a)(k: ∀c o,(o.cls= .type "tuple"/\ ∃items n,o.data= .seq items n)->h.get? c=some o->h'.get? c=some o):T2 prog w h' rs a:=
 let⟨o,items,n,h1,h2,h3,h4⟩:=x; ⟨o,items,n,k a o ⟨h2,_,_,h3⟩ h1,h2,h3,h4.keep k⟩
theorem sI.inj{h:Heap}: ∀{x y:ic} {vs:List Value},sI prog w h x vs->sI prog w h y vs->x=y
 | _,_,_, .nil, .nil=>rfl
 | _,_,_, .cons a s, .cons b t=>by rw [(lB (fX prog w)).inj a b,sI.inj s t]
theorem T2.inj{h:Heap}{a:Addr}{x y:ic}(p:T2 prog w h x a)(q:T2 prog w h y a):x=y:=by
 obtain⟨o,i,n,h1,_,h3,h4⟩:=p
 obtain⟨o',i',n',h1',_,h3',h4'⟩:=q
 rw [h1]at h1'
 cases h1'
 rw [h3]at h3'
 cases h3'
 exact h4.inj h4'
theorem sI.len{h:Heap}: ∀{rs:ic} {vs:List Value},sI prog w h rs vs->rs.length=vs.length
 | _,_, .nil=>rfl
 | _,_, .cons _ t=>by rw [aL,aL,sI.len t]
theorem T2.ty{s:ai}{rs:ic}{a:Addr}(x:T2 prog w s.heap rs a):s.TypeIs (.ref a) "tuple":=let⟨o,_,_,h1,h2,_⟩:=x; ⟨o,h1,h2⟩
def Aw(r:List Int):PyData:= .tuple (r.map .int)
def Fd(rs:ic):PyData:= .tuple (rs.map Aw)
theorem sv{h:Heap}: ∀{r:List Int} {vs:List Value},lZ (fX prog w) r vs->ReadsAll h vs (r.map .int) []
 | _,_, .nil=> .nil
 | _,_, .cons a t=>by
  obtain⟨tk,rfl⟩:=mQ a
  exact .cons (.int _ tk) (sv t)
theorem uk{h:Heap}{r:List Int}{b:Addr}(x:T1 prog w h r b): ∃as,Reads h (.ref b) (Aw r) as:=by
 obtain⟨o,items,n,h1,h2,h3,h4⟩:=x
 exact⟨_, .tuple h1 h2 h3 (sv h4)⟩
theorem wU{h:Heap}: ∀{rs:ic} {vs:List Value},sI prog w h rs vs-> ∃as,ReadsAll h vs (rs.map Aw) as
 | _,_, .nil=>⟨_, .nil⟩
 | _,_, .cons x t=>by
  obtain⟨as,q⟩:=uk x
  obtain⟨bs,u⟩:=wU t
  exact⟨_, .cons q u⟩
theorem zv{h:Heap}{rs:ic}{a:Addr}(x:T2 prog w h rs a): ∃as,Reads h (.ref a) (Fd rs) as:=by
 obtain⟨o,items,n,h1,h2,h3,h4⟩:=x
 obtain⟨as,q⟩:=wU h4
 exact⟨_, .tuple h1 h2 h3 q⟩
theorem lay_ints: ∀r:List Int,eW (r.map .int)=true
 | []=>by simp [eW]
 | x::r=>by simp only [bx,eW,jD,lay_ints r,gX]
theorem xT(r:List Int):(Aw r).canLay0=true:=by unfold Aw; simp only [jD,lay_ints]
theorem y8: ∀rs:ic,eW (rs.map Aw)=true
 | []=>by simp [eW]
 | x::r=>by simp only [bx,eW,xT,y8 r,gX]
theorem BX(rs:ic):(Fd rs).canLay0=true:=by unfold Fd; simp only [jD,y8]
theorem zh: ∀r:List Int,eB (r.map .int)=0
 | []=>by simp [eB]
 | x::r=>by simp only [bx,eB,kW,zh r,Nat.max_self]
theorem xM(r:List Int):(Aw r).depth=1:=by unfold Aw; simp only [kW,zh]
theorem yZ: ∀rs:ic,eB (rs.map Aw)<=1
 | []=>by simp [eB]
 | x::r=>by simp only [bx,eB,xM]; exact Nat.max_le.mpr ⟨ay _,yZ r⟩
theorem Ks(rs:ic):(Fd rs).depth<=2:=by unfold Fd; simp only [kW]; have:=yZ rs; omega
theorem Nq: ∀(x y:List Int),dU (x.map .int) (y.map .int)=decide (x=y)
 | [], []=>by simp [dU]
 | [],_::_=>by simp [dU]
 | _::_, []=>by simp [dU]
 | a::x,b::y=>by
  simp only [bx,dU,Nq x y,jg]
  by_cases h:a=b <;> by_cases h':x=y <;> simp [h,h']
theorem B_(x y:List Int):jg (Aw x) (Aw y)=decide (x=y):=by unfold Aw; simp only [jg,Nq]
theorem MT: ∀(x y:ic),dU (x.map Aw) (y.map Aw)=decide (x=y)
 | [], []=>by simp [dU]
 | [],_::_=>by simp [dU]
 | _::_, []=>by simp [dU]
 | a::x,b::y=>by
  simp only [bx,dU,MT x y,B_]
  by_cases h:a=b <;> by_cases h':x=y <;> simp [h,h']
theorem Kc(x y:ic):jg (Fd x) (Fd y)=decide (x=y):=by unfold Fd; simp only [jg,MT]
variable {A:bA}{E:Value->ai->Prop}{s:ai}
theorem Cy{x y:List Int}{a b:Addr}(hu:A.units+1 < cLine)(p:T1 prog w s.heap x a)(q:T1 prog w s.heap y b):SeqAt.EqAt A s (.ref a) (.ref b) (decide (x=y)):=by
 obtain⟨as,r1⟩:=uk p
 obtain⟨bs,r2⟩:=uk q
 have:=SeqAt.eqAt_reads (Aw x) (Aw y) A s (.ref a) (.ref b) as bs r1 r2 (xT x) (xT y) (by rw [xM,xM]; exact hu)
 rw [B_]at this
 exact this
theorem Cb{x y:ic}{a b:Addr}(hu:A.units+2 < cLine)(p:T2 prog w s.heap x a)(q:T2 prog w s.heap y b):SeqAt.EqAt A s (.ref a) (.ref b) (decide (x=y)):=by
 obtain⟨as,r1⟩:=zv p
 obtain⟨bs,r2⟩:=zv q
 have:=SeqAt.eqAt_reads (Fd x) (Fd y) A s (.ref a) (.ref b) as bs r1 r2 (BX x) (BX y) (by have:=Ks x; have:=Nat.min_le_left (Fd x).depth (Fd y).depth; omega)
 rw [Kc]at this
 exact this
def wy(prog:aq)(w:World)(rs:ic):Int:=yA (fH (rs.map (lB (fX prog w)).hash))
def lh:ic->Nat
 | []=>0
 | r::rs=>(r.length+1)+lh rs
theorem wM: ∀a b:ic,lh (a ++ b)=lh a+lh b
 | [],b=>by simp [lh]
 | r::a,b=>by rw [nZ,lh,lh,wM a b]; omega
theorem JC{rs:ic}{a:Addr}{Q:Int->ai->Prop}(hu:A.units+1 < cLine)(x:T2 prog w s.heap rs a)(h:Q (wy prog w rs) {s with toks:=s.toks+(lh rs+1)}):wpAny (model prog w) A (pyHash (.ref a)) Q E s:=by
 have ty:=x.ty
 obtain⟨o,items,n,h1,_,h3,h4⟩:=x
 have hu0:A.units < cLine:=by omega
 unfold pyHash
 first | unfold pyHashByItsType | skip
 first | refine aa (wpAny_cRoomFor_or (.inr hu0) ?_) | skip
 refine aa (gT ty sZ.lookup ?_)
 show wpAny _ _ (if(some (nJ "tuple.__hash__")==some aR)=true then _ else _) Q E s
 rw [if_neg (by rw [beq_builtin_none]; exact aF)]
 refine aa (gT ty sZ.lookup ?_)
 show wpAny _ _ (callSpecialIfBoundUnlessNone? (.ref a) "__hash__" _ >>=_) Q E s
 refine aa (wpAny_callSpecialIfBoundUnlessNone?_slot ty sZ (bS sZ ty F.entry_tuple_hash ?_ (F.args_tuple_hash_1 _)))
 show wpAny _ _ (yy (.ref a) >>=_) _ _ s
 refine aa (wpAny_tupleItemsOf h1 h3 ?_)
 refine aa ?_
 rw [<-gO]
 refine nV _ (fun rest (b:Array Int) s'=> ∃d l,rs=d ++ l/\sI prog w s.heap l rest/\b.toList=d.map (lB (fX prog w)).hash/\s'={s with toks:=s.toks+lh d}) _ ?_ ?_ _ _ ⟨[],rs,rfl,h4,rfl,rfl⟩
 ·rintro v rest b s' ⟨d,l,rfl,hl,hb,rfl⟩
  cases hl with
  | @cons r c ks _ q hl'=>
   refine aa ((lB (fX prog w)).pyHash (show A.in1.units < cLine from hu) q ?_)
   have e:lh (d ++ [r])=lh d+(r.length+1):=by rw [wM]; rfl
   have fin:({s with toks:=s.toks+lh d+(r.length+1)}:ai)={s with toks:=s.toks+lh (d ++ [r])}:=by rw [e,nK]
   first
    | exact af ⟨d ++ [r],ks,by simp,hl',by simp [hb],fin⟩
    | exact aa (af (af ⟨d ++ [r],ks,by simp,hl',by simp [hb],fin⟩))
 ·rintro b s' ⟨d,l,rfl,hl,hb,rfl⟩
  cases hl
  rw [bq]at h
  show wpAny _ _ (retInt (fH b.toList)) _ _ _
  rw [hb]
  refine wpAny_ret_mkInt ?_
  unfold wy yA at h
  generalize fH (d.map (lB (fX prog w)).hash)=z at h ⊢
  show wpAny _ _ (if(decide (-(2:Int) ^ 63<=z)&&decide (z < 2 ^ 63))=true then _ else _) Q E _
  by_cases hz:(decide (-(2:Int) ^ 63<=z)&&decide (z < 2 ^ 63))=true
  ·rw [if_pos hz]at h ⊢
   exact af h
  ·rw [if_neg hz]at h ⊢
   exact aa (fw (af h))
theorem Fy{r:List Int}{b:Addr}{n:Nat}{Q:Bool->ai->Prop}(x:T1 prog w s.heap r b)(h:Q true s):wpAny (model prog w) A (eqIsQuiet (n+1) (.ref b)) Q E s:=by
 have ty:s.TypeIs (.ref b) "tuple":=IsTupleKey.typeIs x
 obtain⟨o,items,k,h1,_,h3,h4⟩:=x
 unfold eqIsQuiet
 refine aa (gT ty F.slot_tuple_eq.lookup ?_)
 show wpAny _ _ (isInstance (.ref b) (.type "tuple") >>=_) _ _ s
 refine aa (fj ty isSubtype_tuple_tuple ?_)
 simp only [fh,bo,if_false]
 refine aa (dX h1 h3 ?_)
 refine aa ?_
 show wpAny _ _ (forIn items _ _) _ _ s
 rw [<-gO]
 refine nV _ (fun rest z s'=>z.1=none/\s'=s/\ ∀v∈rest,carriedByValue v=true) _ ?_ ?_ _ _ ⟨rfl,rfl,h4.byValue⟩
 ·rintro v rest z s' ⟨hz,rfl,all⟩
  rw [eqIsQuiet_byValue _ (all v ck)]
  refine aa (af ?_)
  simp only [fh,bo,if_false]
  exact af ⟨rfl,rfl,fun u q=>all u (cA _ q)⟩
 ·rintro⟨z1,z2⟩ s' ⟨hz,rfl,_⟩
  simp only at hz
  subst hz
  exact af h
theorem FQ{rs:ic}{a:Addr}{n:Nat}{Q:Bool->ai->Prop}(x:T2 prog w s.heap rs a)(h:Q true s):wpAny (model prog w) A (eqIsQuiet (n+2) (.ref a)) Q E s:=by
 have ty:=x.ty
 obtain⟨o,items,k,h1,_,h3,h4⟩:=x
 unfold eqIsQuiet
 refine aa (gT ty F.slot_tuple_eq.lookup ?_)
 show wpAny _ _ (isInstance (.ref a) (.type "tuple") >>=_) _ _ s
 refine aa (fj ty isSubtype_tuple_tuple ?_)
 simp only [fh,bo,if_false]
 refine aa (dX h1 h3 ?_)
 refine aa ?_
 show wpAny _ _ (forIn items _ _) _ _ s
 rw [<-gO]
 refine nV _ (fun rest z s'=>z.1=none/\s'=s/\ ∃l,sI prog w s.heap l rest) _ ?_ ?_ _ _ ⟨rfl,rfl,rs,h4⟩
 ·rintro v rest z s' ⟨hz,rfl,l,hl⟩
  cases hl with
  | cons q t=>
   refine aa (Fy q ?_)
   simp only [fh,bo,if_false]
   exact af ⟨rfl,rfl,_,t⟩
 ·rintro⟨z1,z2⟩ s' ⟨hz,rfl,_⟩
  simp only at hz
  subst hz
  exact af h
end
def pH(prog:aq)(w:World):HeapKind prog w ic where
 is:=T2 prog w
 hash:=wy prog w
 draws:=fun rs=>lh rs+1
 room:=fun A=>A.units+2 < cLine
 inj:=fun p q=>p.inj q
 keeps:=fun{h h' k a d o es ep} x ho hd hs=>x.keep fun c u hc hu=>by
  refine(hs.2 c ?_).trans hu
  rintro rfl
  rw [hu]at ho
  cases ho
  obtain⟨_,_,_,z⟩:=hc
  rw [hd]at z
  cases z
 pyHash:=fun hu x h=>JC (by omega) x h
 eqBool:=fun{A E s x y a b Q} hu p q h=>Cb hu p q prog w E Q h
 quiet:=fun x h=>FQ (n:=6) x h
section
variable {Ky:Type}
open Classical in
noncomputable def uA (pr:List (Value×Ky)) (v:Value):Option Ky:=if h: ∃k,(v,k)∈pr then some h.choose else none
theorem yk{pr:List (Value×Ky)}(nv:(pr.map (·.1)).Nodup){v:Value}{k:Ky}(h:(v,k)∈pr):uA pr v=some k:=by
 have hx: ∃k,(v,k)∈pr:=⟨k,h⟩
 unfold uA
 rw [dif_pos hx]
 have h2:=hx.choose_spec
 generalize hx.choose=k' at h2
 obtain⟨i,hi,e1⟩:=aW.mp h
 obtain⟨j,hj,e2⟩:=aW.mp h2
 have:i=j:=by
  refine(iE (xs:=pr.map (·.1)) (h₀:=by rw [ae]; exact hi) (h₁:=by rw [ae]; exact hj) nv).mp ?_
  rw [bp,bp,e1,e2]
 subst this
 rw [e1]at e2
 exact congrArg some (sW.mp e2).2.symm
noncomputable def JX (lt:Ky->Ky->Bool) (pr:List (Value×Ky)) (x y:Kd):Bool:=match uA pr x.1,uA pr y.1 with
 | some a,some b=>lt a b
 | _,_=>false
structure p_(lt:Ky->Ky->Bool):Prop where
 wd: ∀x y,x≠y->lt x y=false->lt y x=true
 Hz: ∀x y,lt x y=true->lt y x=false
 tr: ∀x y z,lt x y=true->lt y z=true->lt x z=true
def Oo(pr:List (Value×Ky))(x:Kd):Prop:= ∃k,(x.1,k)∈pr/\x.2=x.1
theorem xV{lt:Ky->Ky->Bool}{pr:List (Value×Ky)}(nv:(pr.map (·.1)).Nodup){u v:Value}{a b:Ky}(h:(u,a)∈pr)(h':(v,b)∈pr)(u2 v2:Value):JX lt pr (u,u2) (v,v2)=lt a b:=by
 unfold JX
 rw [yk nv h,yk nv h']
theorem OF{lt:Ky->Ky->Bool}(o:p_ lt){pr:List (Value×Ky)}(nv:(pr.map (·.1)).Nodup)(nk:(pr.map (·.2)).Nodup):oo (Oo pr) (JX lt pr):=by
 refine⟨fun x y ⟨a,ha,ea⟩ ⟨b,hb,eb⟩ hne e=> ?_,fun x y e=> ?_,fun x y z e1 e2=> ?_⟩
 ·obtain⟨x1,x2⟩:=x
  obtain⟨y1,y2⟩:=y
  rw [xV nv ha hb]at e
  rw [xV nv hb ha]
  refine o.wd a b (fun z=>hne ?_) e
  obtain⟨i,hi,e1⟩:=aW.mp ha
  obtain⟨j,hj,e2⟩:=aW.mp hb
  have:i=j:=by
   refine(iE (xs:=pr.map (·.2)) (h₀:=by rw [ae]; exact hi) (h₁:=by rw [ae]; exact hj) nk).mp ?_
   rw [bp,bp,e1,e2]
   exact z
  subst this
  rw [e1]at e2
  have h1:x1=y1:=(sW.mp e2).1
  have ea:x2=x1:=ea
  have eb:y2=y1:=eb
  rw [ea,eb,h1]
 ·unfold JX at e ⊢
  cases h1:uA pr x.1 with
  | none=>rw [h1]at e; cases e
  | some a=>
   cases h2:uA pr y.1 with
   | none=>exact absurd e (by rw [h1,h2]; exact aF)
   | some b=>rw [h1,h2]at e; exact o.Hz _ _ e
 ·unfold JX at e1 e2 ⊢
  cases h1:uA pr x.1 with
  | none=>rw [h1]at e1; cases e1
  | some a=>
   cases h2:uA pr y.1 with
   | none=>rw [h1,h2]at e1; cases e1
   | some b=>
    cases h3:uA pr z.1 with
    | none=>exact absurd e2 (by rw [h2,h3]; exact aF)
    | some c=>
     rw [h1,h2]at e1
     rw [h2,h3]at e2
     exact o.tr _ _ _ e1 e2
def rA(lt:Ky->Ky->Bool)(pr:List (Value×Ky))(out:List Value):Prop:= ∃q:List (Value×Ky),q.Perm pr/\q.map (·.1)=out/\q.Pairwise (fun a b=>lt a.2 b.2=true)
theorem DG{lt:Ky->Ky->Bool}{pr:List (Value×Ky)}(nv:(pr.map (·.1)).Nodup){l:List Kd}(hp:l.Perm (pr.map fun x=>(x.1,x.1)))(hs:mD (JX lt pr) l):rA lt pr (l.map (·.2)):=by
 have key: ∀l:List Kd,(∀x∈l,Oo pr x)->mD (JX lt pr) l-> ∃q:List (Value×Ky),q.map (fun x=>(x.1,x.1))=l/\(∀x∈q,x∈pr)/\q.Pairwise (fun a b=>lt a.2 b.2=true):=by
  intro l
  induction l with
  | nil=>intro _ _; exact⟨[],rfl,fun x hx=>absurd hx dR,eU⟩
  | cons x l ih=>
   intro h1 h2
   obtain⟨q,e,hm,hq⟩:=ih (fun y hy=>h1 y (.tail _ hy)) (cu.mp h2).2
   obtain⟨k,hk,ek⟩:=h1 x (.head _)
   refine⟨(x.1,k)::q, ?_,fun y hy=> ?_,cu.mpr ⟨fun y hy=> ?_,hq⟩⟩
   ·rw [bx,e]
    obtain⟨x1,x2⟩:=x
    have ek:x2=x1:=ek
    rw [ek]
   ·rcases aO.mp hy with rfl | hy
    ·exact hk
    ·exact hm y hy
   ·have:=(cu.mp h2).1 (y.1,y.1) (by rw [<-e]; exact bh.mpr ⟨y,hy,rfl⟩)
    have e2:=xV (lt:=lt) nv hk (hm y hy) x.2 y.1
    rw [<-e2]
    exact this
 obtain⟨q,e,hm,hq⟩:=key l (fun x hx=>by
  obtain⟨p,hp',rfl⟩:=bh.mp (hp.mem_iff.mp hx)
  exact⟨p.2,hp',rfl⟩) hs
 refine⟨q, ?_,by rw [<-e,dI]; rfl,hq⟩
 have h1:(q.map fun x=>(x.1,x.1)).Perm (pr.map fun x=>(x.1,x.1)):=by rw [e]; exact hp
 have h2:(q.map (·.1)).Perm (pr.map (·.1)):=by
  have:=h1.map (fun x:Value×Value=>x.1)
  rw [dI,dI]at this
  exact this
 have back: ∀l:List (Value×Ky),(∀x∈l,x∈pr)->(l.map (·.1)).filterMap (fun v=>(uA pr v).map fun k=>(v,k))=l:=by
  intro l
  induction l with
  | nil=>intro _; rfl
  | cons x l ih=>
   intro h
   rw [bx,kP,yk nv (show(x.1,x.2)∈pr from h x (.head _)),ih fun y hy=>h y (.tail _ hy)]
   rfl
 have:=h2.filterMap (fun v=>(uA pr v).map fun k=>(v,k))
 rw [back q hm,back pr fun x hx=>hx]at this
 exact this
end
section
variable {prog:aq}{w:World}{A:bA}{E:Value->ai->Prop}{s:ai}{Ky:Type}
theorem zo{lt:Ky->Ky->Bool}{κ:kj}{a:Addr}{pr:List (Value×Ky)}{vs:List Value}(evs:vs=pr.map (·.1))(o:p_ lt)(nv:(pr.map (·.1)).Nodup)(nk:(pr.map (·.2)).Nodup){n:Nat}{P:qy->ai->Prop}(ho:s.heap.get? a=some (cf "list" vs.toArray n))(hl:vs.length<=sizeLine)
  (kd:2<=vs.length-> ∀(h':Heap) (Q:kj->ai->Prop),(∀b ob,b≠a->s.heap.get? b=some ob->h'.get? b=some ob)->Q κ {s with heap:=h'}->wpAny (model prog w) A (keyKind' vs.toArray) Q E {s with heap:=h'})
  (sy: ∀(h':Heap),(∀b ob,b≠a->s.heap.get? b=some ob->h'.get? b=some ob)-> ∀x∈pr, ∀y∈pr, ∀Q:Bool->ai->Prop,Q (lt x.2 y.2) {s with heap:=h'}->wpAny (model prog w) A (keyLt' κ x.1 y.1) Q (fun _ _=>False) {s with heap:=h'})
  (h: ∀(h':Heap) (out:List Value) (c:Nat),rA lt pr out->h'.get? a=some (cf "list" out.toArray c)->(∀b ob,b≠a->s.heap.get? b=some ob->h'.get? b=some ob)->P (.done (.ret .none)) {s with heap:=h'}):
  wpAny (model prog w) A (dF.«list.sort» ⟨[.ref a], []⟩) P E s:=by
 have s1:=bB s.heap a (cm fun _=>(#[]:Array Value))
 obtain⟨e1,ho1⟩: ∃e1,(s.heap.update a (cm fun _=>(#[]:Array Value))).get? a=some (cf "list" #[] e1):=⟨_,eE ho fun _=> #[]⟩
 rw [list_sort_plain]
 refine aa (listItems_at ho rfl ?_)
 refine aa (fW ho rfl ?_ (by rw [aC]; exact hl) (bN _))
 refine aa (E8 ho1 rfl ?_)
 refine aa (qu ?_ (by show vs.length<=_; exact hl))
 refine aa (rg ?_ (bN _))
 refine bM ?_
 have ho3:(((s.heap.update a (cm fun _=>(#[]:Array Value))).push (cf "tuple" vs.toArray 0)).push (cf "list" #[] 0)).get? a=some (cf "list" #[] e1):=ag _ (ag _ ho1)
 have hk3: ∀b ob,b≠a->s.heap.get? b=some ob->(((s.heap.update a (cm fun _=>(#[]:Array Value))).push (cf "tuple" vs.toArray 0)).push (cf "list" #[] 0)).get? b=some ob:=fun b ob hb e=>ag _ (ag _ ((s1.2 b hb).trans e))
 show wpAny (model prog w) A _ P E {s with heap:=((s.heap.update a (cm fun _=>(#[]:Array Value))).push (cf "tuple" vs.toArray 0)).push (cf "list" #[] 0)}
 generalize ((s.heap.update a (cm fun _=>(#[]:Array Value))).push (cf "tuple" vs.toArray 0)).push (cf "list" #[] 0)=H3 at ho3 hk3
 have lvs:vs.length=pr.length:=by rw [evs,ae]
 dsimp only
 have tail: ∀(out:List Value) (st:cv) (R:qy->ai->Prop),out.length=vs.length->(arrOf st).map (·.2)=eO out->fO st=none->(∀(h':Heap) (c:Nat),h'.get? a=some (cf "list" out.toArray c)->(∀b ob,b≠a->s.heap.get? b=some ob->h'.get? b=some ob)->R (.done (.ret .none)) {s with heap:=h'})->
   wpAny (model prog w) A (do
    let touched:=(<-seqEpoch a) !=e1
    Builtin.List.listUpdate (.ref a) fun _=>(arrOf st).map (·.2)
    if let some e:=fO st then rule "list.sort.comparison-raised"; throw e
    if touched then rule "list.sort.modified"; raiseError "ValueError" "list modified during sort"
    ret .none) R E {s with heap:=H3}:=by
  intro out st R hp hout hf hR
  have hsz:(eO out).size=vs.length:=by rw [aC,hp]
  rw [hout]
  have s2:=bB H3 a (cm fun _=>eO out)
  obtain⟨c2,hc2⟩: ∃c2,(H3.update a (cm fun _=>eO out)).get? a=some (cf "list" (eO out) c2):=⟨_,eE ho3 fun _=>eO out⟩
  refine aa (E8 ho3 rfl ?_)
  refine aa (fW ho3 rfl ?_ (bN _) (bE (kU hsz) (Nat.le_succ_of_le hl)))
  rw [hf]
  simp only [bne_self_eq_false,bo,if_false]
  exact af (hR _ c2 hc2 fun b ob hb e=>(s2.2 b hb).trans (hk3 b ob hb e))
 have zz:(vs.toArray.zip vs.toArray).toList=pr.map fun x=>(x.1,x.1):=by
  rw [KG]
  show vs.zip vs=_
  rw [evs,List.zip_map']
 by_cases h2:vs.length < 2
 ·have hn2:vs.toArray.size < 2:=by rw [aC]; exact h2
  rw [if_pos hn2,if_pos hn2]
  refine aa (af ?_)
  refine aa ?_
  rw [StateT.run_pure]
  refine af ?_
  dsimp only
  refine tail vs _ P rfl ?_ rfl fun h' c h3 h4=>h h' vs c ⟨pr,dB _,evs.symm, ?_⟩ h3 h4
  ·show(vs.toArray.zip vs.toArray).map (·.2)=_
   apply j7.mp
   rw [KD,KG]
   exact j8 (ay _)
  ·match pr,lvs with
   | [],_=>exact eU
   | [q],_=>exact n8 _ _
   | _::_::_,z=>simp at z; omega
 ·have hn2: ¬vs.toArray.size < 2:=by rw [aC]; exact h2
  rw [if_neg hn2,if_neg hn2]
  refine aa (kd (by omega) H3 _ hk3 ?_)
  have nd0:(pr.map fun x=>(x.1,x.1)).Nodup:=by
   have:(pr.map fun x=>(x.1,x.1))=(pr.map (·.1)).map fun v=>(v,v):=by rw [dI]; rfl
   rw [this]
   exact List.Pairwise.map _ (fun a b hab z=>hab (sW.mp z).1) nv
  refine aa (bW (HV (s:={s with heap:=H3}) (κ:=κ) (S:=Oo pr) (lt:=JX lt pr) (a0:=pr.map fun x=>(x.1,x.1)) (st:=SortSt.mk' κ (vs.toArray.zip vs.toArray) #[] 7 none)
   (Q:=fun _ st'=>fO st'=none/\(arrOf st').toList.Perm (pr.map fun x=>(x.1,x.1))/\mD (JX lt pr) (arrOf st').toList)
   (OF o nv nk) ?says nd0 (fun x hx=> ?mem) rfl rfl rfl zz fun st' a1 a2 a3=>⟨a1,a2,a3⟩) ?_ fun _ _ e=>e)
  case says=>
   rintro⟨x1,x2⟩ ⟨y1,y2⟩ Q ⟨ka,ha,ea⟩ ⟨kb,hb,eb⟩ hQ
   rw [xV nv ha hb]at hQ
   exact sy H3 hk3 (x1,ka) ha (y1,kb) hb Q hQ
  case mem=>
   obtain⟨p,hp,rfl⟩:=bh.mp hx
   exact⟨p.2,hp,rfl⟩
  rintro⟨⟨⟩,st'⟩ s' ⟨rfl,hf,hp,hs⟩
  dsimp only
  have so:=DG nv hp hs
  have hlen:((arrOf st').toList.map (·.2)).length=vs.length:=by rw [ae,hp.length_eq,ae,lvs]
  refine tail _ st' P hlen ?_ hf fun h' c h3 h4=>h h' _ c so h3 h4
  apply j7.mp
  rw [KD]
end
def qA{α:Type} [DecidableEq α](lt:α->α->Bool):List α->List α->Bool
 | a::as,b::bs=>if a=b then qA lt as bs else lt a b
 | [],_::_=>true
 | _, []=>false
section
variable {α:Type} [DecidableEq α]{lt:α->α->Bool}
theorem zM(o:p_ lt): ∀(a b:List α),a≠b->qA lt a b=false->qA lt b a=true
 | [], [],h,_=>absurd rfl h
 | [],_::_,_,h=>by cases h
 | _::_, [],_,_=>rfl
 | a::as,b::bs,h,e=>by
  unfold qA at e ⊢
  by_cases hab:a=b
  ·rw [if_pos hab]at e
   rw [if_pos hab.symm]
   exact zM o as bs (fun z=>h (by rw [hab,z])) e
  ·rw [if_neg hab]at e
   rw [if_neg fun z=>hab z.symm]
   exact o.wd a b hab e
theorem z7(o:p_ lt): ∀(a b:List α),qA lt a b=true->qA lt b a=false
 | [], [],h=>by cases h
 | [],_::_,_=>rfl
 | _::_, [],h=>by cases h
 | a::as,b::bs,e=>by
  unfold qA at e ⊢
  by_cases hab:a=b
  ·rw [if_pos hab]at e
   rw [if_pos hab.symm]
   exact z7 o as bs e
  ·rw [if_neg hab]at e
   rw [if_neg fun z=>hab z.symm]
   exact o.Hz a b e
theorem CH(o:p_ lt): ∀(a b c:List α),qA lt a b=true->qA lt b c=true->qA lt a c=true
 | [],_,_::_,_,_=>rfl
 | _, [], [],_,h=>by cases h
 | _,_::_, [],_,h=>by cases h
 | _::_, [],_::_,h,_=>by cases h
 | a::as,b::bs,c::cs,h1,h2=>by
  unfold qA at h1 h2 ⊢
  by_cases hab:a=b
  ·subst hab
   rw [if_pos rfl]at h1
   by_cases hac:a=c
   ·rw [if_pos hac]at h2 ⊢
    exact CH o as bs cs h1 h2
   ·rw [if_neg hac]at h2 ⊢
    exact h2
  ·rw [if_neg hab]at h1
   by_cases hbc:b=c
   ·subst hbc
    rw [if_neg hab]
    exact h1
   ·rw [if_neg hbc]at h2
    have:=o.tr a b c h1 h2
    by_cases hac:a=c
    ·subst hac
     rw [o.Hz a b h1]at h2
     cases h2
    ·rw [if_neg hac]
     exact this
theorem p_.lex(o:p_ lt):p_ (qA lt):=⟨zM o,z7 o,CH o⟩
end
def ltI(a b:Int):Bool:=decide (a < b)
theorem Jg:p_ ltI:=⟨fun x y h e=>decide_eq_true (by have:=of_decide_eq_false e; omega),fun x y e=>decide_eq_false (by have:=of_decide_eq_true e; omega),fun x y z e1 e2=>decide_eq_true (by have:=of_decide_eq_true e1; have:=of_decide_eq_true e2; omega)⟩
abbrev Bh:List Int->List Int->Bool:=qA ltI
abbrev nu:ic->ic->Bool:=qA Bh
theorem DV:p_ nu:=Jg.lex.lex
def rm(a b:ic×Int):Bool:=if a.1=b.1 then ltI a.2 b.2 else nu a.1 b.1
theorem NA:p_ rm:=by
 refine⟨fun x y h e=> ?_,fun x y e=> ?_,fun x y z e1 e2=> ?_⟩
 ·unfold rm at e ⊢
  by_cases q:x.1=y.1
  ·rw [if_pos q]at e
   rw [if_pos q.symm]
   exact Jg.wd _ _ (fun z=>h (Prod.ext q z)) e
  ·rw [if_neg q]at e
   rw [if_neg fun z=>q z.symm]
   exact DV.wd _ _ q e
 ·unfold rm at e ⊢
  by_cases q:x.1=y.1
  ·rw [if_pos q]at e
   rw [if_pos q.symm]
   exact Jg.Hz _ _ e
  ·rw [if_neg q]at e
   rw [if_neg fun z=>q z.symm]
   exact DV.Hz _ _ e
 ·obtain⟨a,i⟩:=x
  obtain⟨b,j⟩:=y
  obtain⟨c,k⟩:=z
  unfold rm at e1 e2 ⊢
  dsimp only at e1 e2 ⊢
  by_cases hab:a=b
  ·subst hab
   rw [if_pos rfl]at e1
   by_cases hac:a=c
   ·rw [if_pos hac]at e2 ⊢
    exact Jg.tr _ _ _ e1 e2
   ·rw [if_neg hac]at e2 ⊢
    exact e2
  ·rw [if_neg hab]at e1
   by_cases hbc:b=c
   ·subst hbc
    rw [if_neg hab]
    exact e1
   ·rw [if_neg hbc]at e2
    by_cases hac:a=c
    ·subst hac
     rw [DV.Hz a b e1]at e2
     cases e2
    ·rw [if_neg hac]
     exact DV.tr a b c e1 e2
theorem zG: ∀a b:List Int,HT.lexLt a b=Bh a b
 | [], []=>rfl
 | [],_::_=>rfl
 | _::_, []=>rfl
 | a::as,b::bs=>by
  rw [HT.uo]
  show _=if a=b then Bh as bs else decide (a < b)
  rw [zG as bs]
section
variable {prog:aq}{w:World}{A:bA}{E:Value->ai->Prop}{s:ai}
theorem CJ{h:Heap}{r:List Int}{b:Addr}(x:T1 prog w h r b): ∃items:Array Value,IsTup h b items/\jC items.toList r:=by
 obtain⟨o,items,n,h1,h2,h3,h4⟩:=x
 refine⟨items,⟨o,h1,h2,n,h3⟩, ?_⟩
 generalize items.toList=l at h4
 induction h4 with
 | nil=>exact .nil
 | cons a t ih=>
  obtain⟨tk,rfl⟩:=mQ a
  exact .cons _ tk ih
theorem KR{x y:List Int}{a b:Addr}{Q:Value->ai->Prop}(hu:A.units < cLine)(p:T1 prog w s.heap x a)(q:T1 prog w s.heap y b)(h:Q (.bool (Bh x y)) s):wpAny (model prog w) A (cP .Lt (.ref a) (.ref b)) Q E s:=by
 obtain⟨i1,t1,n1⟩:=CJ p
 obtain⟨i2,t2,n2⟩:=CJ q
 exact HT.Bj t1 t2 n1 n2 hu (by rw [zG]; exact h)
theorem wa{l b:Addr}{items items2:Array Value}{n n2:Nat}{dd dd2:Option Addr}{sl sl2:Array (Option Value)}{x y:ic}:
  MeetsIn prog w (dF.«tuple.__lt__» ⟨[.ref l, .ref b], []⟩)
   (fun A R s=>A.units+2 < cLine/\s.heap.get? l=some {cls:= .type "tuple",dict:=dd,data:= .seq items n,slots:=sl}/\s.heap.get? b=some {cls:= .type "tuple",dict:=dd2,data:= .seq items2 n2,slots:=sl2}/\
    sI prog w s.heap x items.toList/\sI prog w s.heap y items2.toList/\R (.ok (.ret (.bool (nu x y)))) s):=
 .of_wp fun A R s h=>by
  obtain⟨hp,g,d,tk,os⟩:=s
  obtain⟨hu,hl,hb,hi,hj,h⟩:=h
  have f2:=iS
  have z1:items.size=x.length:=by rw [hi.len]; simp
  have z2:items2.size=y.length:=by rw [hj.len]; simp
  wp_walk using cC hl,cC hb,nV _ (fun rest b s'=>b.1=none/\s'=⟨hp,g,d,tk,os⟩/\ ∃(vs ws:List Value) (x' y':ic),rest=vs.zip ws/\
   sI prog w hp x' vs/\sI prog w hp y' ws/\x'.length+items2.size=y'.length+items.size/\R (.ok (.ret (.bool (nu x' y')))) ⟨hp,g,d,tk,os⟩) _
  case turn=>
   rintro⟨u,v⟩ rest b s' ⟨hb',rfl,vs,ws,x',y',hz,hv,hw,hlen,hR⟩
   cases hv with
   | nil=>rw [List.zip_nil_left]at hz; cases hz
   | @cons r a xs vs' ha hv'=>
    cases hw with
    | nil=>rw [List.zip_nil_right]at hz; cases hz
    | @cons r' c ys ws' hc hw'=>
     rw [rX]at hz
     injection hz with hyx hrest
     injection hyx with hy hx
     subst hy hx
     have hR':R (.ok (.ret (.bool (if r=r' then nu xs ys else Bh r r')))) ⟨hp,g,d,tk,os⟩:=hR
     simp only [aL]at hlen
     refine aa (Cy (A:=A.in1) (s:=⟨hp,g,d,tk,os⟩) (prog:=prog) (w:=w) (by show A.units+1+1 < cLine; omega) ha hc prog w _ _ ?_)
     by_cases e:r=r'
     ·rw [if_pos e]at hR'
      rw [decide_eq_true e]
      wp_walk
      exact⟨rfl,rfl,_,_,_,_,hrest,hv',hw',by omega,hR'⟩
     ·rw [if_neg e]at hR'
      rw [decide_eq_false e]
      have hri: ∀{E:Value->ai->Prop} {Q:Value->ai->Prop},Q (.bool (Bh r r')) ⟨hp,g,d,tk,os⟩->wpAny (model prog w) A.in1 (richCompare .Lt (.ref a) (.ref c)) Q E ⟨hp,g,d,tk,os⟩:=fun q=>KR (A:=A.in1) (s:=⟨hp,g,d,tk,os⟩) (show A.units+1 < cLine by omega) ha hc q
      wp_walk using hri
      exact⟨_,rfl,by simpa using hR'⟩
  case fin=>
   rintro⟨b1,b2⟩ s' ⟨hb',rfl,vs,ws,x',y',hz,hv,hw,hlen,hR⟩
   simp only at hb'
   subst hb'
   have he:nu x' y'=decide (items.size < items2.size):=by
    cases hv with
    | nil=>
     cases hw with
     | nil=>
      simp only [dG]at hlen
      exact(decide_eq_false (by omega)).symm
     | cons c hw=>
      simp only [dG,aL]at hlen
      exact(decide_eq_true (by omega)).symm
    | cons a hv=>
     cases hw with
     | nil=>
      simp only [dG,aL]at hlen
      exact(decide_eq_false (by omega)).symm
     | cons c hw=>
      rw [rX]at hz
      cases hz
   rw [he]at hR
   wp_walk
   exact⟨_,rfl,by simpa [Builtin.Tuple.tupleCompareSizes]using hR⟩
  case h=>
   exact⟨rfl,rfl,items.toList,items2.toList,x,y,rfl,hi,hj,by omega,h⟩
theorem M1{x y:ic}{a b:Addr}{Q:Value->ai->Prop}(hu:A.units+2 < cLine)(p:T2 prog w s.heap x a)(q:T2 prog w s.heap y b)(h:Q (.bool (nu x y)) s):wpAny (model prog w) A (cP .Lt (.ref a) (.ref b)) Q E s:=by
 have ta:=p.ty
 have tb:=q.ty
 obtain⟨⟨c1,d1,e1,f1⟩,i1,n1,h1,h2,h3,h4⟩:=p
 obtain⟨⟨c2,d2,e2,f2⟩,i2,n2,k1,k2,k3,k4⟩:=q
 simp only at h2 h3 k2 k3
 subst h2 h3 k2 k3
 show wpAny (model prog w) A (richCompare .Lt (.ref a) (.ref b)) Q E s
 exact wpAny_richCompare_same_room ta tb CM (call_meetsIn CM ta PySem.F.entry_tuple_lt (PySem.F.args_tuple_lt_2 _ _) wa ⟨hu,h1,k1,h4,k4,show fS (nu x y)≠Value.notImplemented/\Q (.bool (nu x y)) s from⟨(fun z=>nomatch z),h⟩⟩) (by omega)
end
section
variable {prog:aq}{w:World}{A:bA}{E:Value->ai->Prop}{s:ai}
theorem wA{M:Model}{h:Heap}{b:Addr}{o:Obj}(e:h.get? b=some o)(c:o.cls= .type "tuple"):Looks M h (typeOf (.ref b)) (.type "tuple"):=fun A Q E s k q=>fL (T:="tuple") ⟨o,k _ _ e,c⟩ q
theorem HQ{M:Model}{h:Heap}{r:List Int}{b:Addr}(x:T1 prog w h r b):Looks M h (typeOf (.ref b)) (.type "tuple"):=let⟨_,_,_,h1,h2,_⟩:=x; wA h1 h2
theorem FI{M:Model}{h:Heap}{r:ic}{b:Addr}(x:T2 prog w h r b):Looks M h (typeOf (.ref b)) (.type "tuple"):=let⟨_,_,_,h1,h2,_⟩:=x; wA h1 h2
theorem y9{fin:Bool}{Q:Bool->ai->Prop}(hu:A.units+1 < cLine): ∀(x y:ic) (l l':List Value) (i:Nat),sI prog w s.heap x l->sI prog w s.heap y l'->x.length=y.length->fin=false->Q (nu x y) s->KatLex prog w A false fin Q (l.zip l') i s
 | [], [],_,_,i, .nil, .nil,_,hf,hq=>by subst hf; exact hq
 | [],_::_,_,_,_,_,_,hl,_,_=>by simp at hl
 | _::_, [],_,_,_,_,_,hl,_,_=>by simp at hl
 | r::x,r'::y,_,_,i, .cons a s1, .cons b s2,hl,hf,hq=>by
  have hq:Q (if r=r' then nu x y else Bh r r') s:=hq
  refine kat_cons (Cy hu a b prog w _ _ ?_)
  by_cases e:r=r'
  ·rw [if_pos e]at hq
   rw [decide_eq_true e]
   exact kat_yes (y9 hu x y _ _ (i+1) s1 s2 (by simpa using hl) hf hq)
  ·rw [if_neg e]at hq
   rw [decide_eq_false e]
   refine kat_no ?_
   rw [fu]
   exact kat_one _ _ (KR (by omega) a b hq)
theorem Mh{x y:ic}{a b:Addr}{Q:Bool->ai->Prop}(hu:A.units+1 < cLine)(p:T2 prog w s.heap x a)(q:T2 prog w s.heap y b)(hl:x.length=y.length)(h:Q (nu x y) s):wpAny (model prog w) A (keyLt' (tuples' false) (.ref a) (.ref b)) Q (fun _ _=>False) s:=by
 obtain⟨o,i1,n,h1,_,h3,h4⟩:=p
 obtain⟨o',i2,n',k1,_,k3,k4⟩:=q
 have l1:i1.size=x.length:=by rw [h4.len,aj]
 have l2:i2.size=y.length:=by rw [k4.len,aj]
 exact kat_lt h1 h3 k1 k3 (y9 hu x y _ _ 0 h4 k4 hl (decide_eq_false (by rw [l1,l2,hl]; exact dz _)) h)
def T3(prog:aq)(w:World)(h:Heap)(k:ic×Int)(a:Addr):Prop:= ∃o n b t,h.get? a=some o/\o.cls= .type "tuple"/\o.data= .seq #[.ref b, .int k.2 t] n/\T2 prog w h k.1 b
theorem T3.keep{h h':Heap}{k:ic×Int}{a:Addr}(x:T3 prog w h k a)(q: ∀c o,(o.cls= .type "tuple"/\ ∃items n,o.data= .seq items n)->h.get? c=some o->h'.get? c=some o):T3 prog w h' k a:=
 let⟨o,n,b,t,h1,h2,h3,h4⟩:=x; ⟨o,n,b,t,q a o ⟨h2,_,_,h3⟩ h1,h2,h3,h4.keep q⟩
theorem Ma{x y:ic×Int}{a b:Addr}{Q:Bool->ai->Prop}(hu:A.units+2 < cLine)(p:T3 prog w s.heap x a)(q:T3 prog w s.heap y b)(h:Q (rm x y) s):wpAny (model prog w) A (keyLt' (tuples' false) (.ref a) (.ref b)) Q (fun _ _=>False) s:=by
 obtain⟨o,n,c,t,h1,_,h3,h4⟩:=p
 obtain⟨o',n',c',t',k1,_,k3,k4⟩:=q
 refine kat_lt h1 h3 k1 k3 ?_
 show KatLex prog w A false _ Q [(.ref c, .ref c'),(.int x.2 t, .int y.2 t')] 0 s
 refine kat_cons (Cb hu h4 k4 prog w _ _ ?_)
 unfold rm at h
 by_cases e:x.1=y.1
 ·rw [if_pos e]at h
  rw [decide_eq_true e]
  refine kat_yes (kat_cons (Kw ?_))
  by_cases e2:x.2=y.2
  ·rw [beq_iff_eq.mpr e2]
   refine kat_yes (kat_nil ?_)
   have z:ltI x.2 y.2=false:=decide_eq_false (by omega)
   rw [z]at h
   exact h
  ·rw [beq_eq_false_iff_ne.mpr e2]
   refine kat_no ?_
   rw [fu]
   exact kat_one _ _ (lt_int h)
 ·rw [if_neg e]at h
  rw [decide_eq_false e]
  refine kat_no ?_
  rw [fu]
  exact kat_one _ _ (M1 (by omega) h4 k4 h)
theorem K8{h:Heap}: ∀{pr:List (Value×ic)},(∀q∈pr, ∃b,q.1=ak b/\T2 prog w h q.2 b/\q.2≠ [])-> ∃fs,KatTups h (pr.map (·.1)) fs/\fs.length=pr.length/\ ∀v∈fs, ∃r b,v=ak b/\T1 prog w h r b
 | [],_=>⟨[],trivial,rfl,fun v hv=>by cases hv⟩
 | q::pr,x=>by
  obtain⟨b,e,⟨o,items,n,h1,h2,h3,h4⟩,hne⟩:=x q (.head _)
  obtain⟨fs,a1,a2,a3⟩:=K8 (pr:=pr) fun u hu=>x u (.tail _ hu)
  obtain⟨v,rs⟩:=q
  obtain⟨items⟩:=items
  cases h4 with
  | nil=>exact absurd rfl hne
  | @cons r c rs' vs' hr t=>
   refine⟨.ref c::fs,⟨⟨b,o,_,n,e,h1,h2,h3,rfl⟩,a1⟩,by simp [a2],fun u hu=> ?_⟩
   rcases aO.mp hu with rfl | hu
   ·exact⟨r,c,rfl,hr⟩
   ·exact a3 u hu
theorem KP{h:Heap}: ∀{pr:List (Value×(ic×Int))},(∀q∈pr, ∃b,q.1=ak b/\T3 prog w h q.2 b)-> ∃fs,KatTups h (pr.map (·.1)) fs/\fs.length=pr.length/\ ∀v∈fs, ∃r b,v=ak b/\T2 prog w h r b
 | [],_=>⟨[],trivial,rfl,fun v hv=>by cases hv⟩
 | q::pr,x=>by
  obtain⟨b,e,o,n,c,t,h1,h2,h3,h4⟩:=x q (.head _)
  obtain⟨fs,a1,a2,a3⟩:=KP (pr:=pr) fun u hu=>x u (.tail _ hu)
  refine⟨.ref c::fs,⟨⟨b,o,_,n,e,h1,h2,h3,rfl⟩,a1⟩,by simp [a2],fun u hu=> ?_⟩
  rcases aO.mp hu with rfl | hu
  ·exact⟨_,c,rfl,h4⟩
  ·exact a3 u hu
theorem JI{a:Addr}{pr:List (Value×ic)}{m n:Nat}{P:qy->ai->Prop}(hu:A.units+1 < cLine)(ho:s.heap.get? a=some (cf "list" (pr.map (·.1)).toArray n))(hl:pr.length<=sizeLine)(y: ∀q∈pr, ∃b,q.1=ak b/\T2 prog w s.heap q.2 b)(hm: ∀q∈pr,q.2.length=m)(m0:0 < m)(nk:(pr.map (·.2)).Nodup)
  (h: ∀(h':Heap) (out:List Value) (c:Nat),rA nu pr out->h'.get? a=some (cf "list" out.toArray c)->(∀b ob,b≠a->s.heap.get? b=some ob->h'.get? b=some ob)->P (.done (.ret .none)) {s with heap:=h'}):
  wpAny (model prog w) A (dF.«list.sort» ⟨[.ref a], []⟩) P E s:=by
 have nv:(pr.map (·.1)).Nodup:=by
  refine cM.mpr fun i j hi hj hij z=> ?_
  rw [ae]at hi hj
  rw [bp,bp]at z
  obtain⟨b,e1,t1⟩:=y _ (a_ hi)
  obtain⟨b',e2,t2⟩:=y _ (a_ hj)
  rw [e1,e2]at z
  cases z
  have:=(cM.mp nk) i j (by rw [ae]; exact hi) (by rw [ae]; exact hj) hij
  rw [bp,bp]at this
  exact this (t1.inj t2)
 have kp: ∀h':Heap,(∀b ob,b≠a->s.heap.get? b=some ob->h'.get? b=some ob)-> ∀q∈pr, ∃b,q.1=ak b/\T2 prog w h' q.2 b:=fun h' k q hq=>by
  obtain⟨b,e,t⟩:=y q hq
  exact⟨b,e,t.keep fun c o hc z=>k c o (by rintro rfl; rw [ho]at z; cases z; exact absurd (show cR "list"=cR "tuple" from hc.1) (by decide)) z⟩
 have ne: ∀q∈pr,q.2≠ []:=fun q hq z=>by have:=hm q hq; rw [z]at this; simp at this; omega
 refine zo (lt:=nu) (κ:=tuples' false) rfl DV nv nk ho (by rw [ae]; exact hl) (fun h2 h' Q k q=> ?_) (fun h' k x hx z hz Q q=> ?_) h
 ·obtain⟨fs,a1,a2,a3⟩:=K8 (prog:=prog) (w:=w) (h:=h') (pr:=pr) fun q hq=>let⟨b,e,t⟩:=kp h' k q hq; ⟨b,e,t,ne q hq⟩
  rw [ae]at h2
  exact kat_kind (s:={s with heap:=h'}) (T:= .type "tuple") a1 (by omega) (fun v hv=>by obtain⟨r,b,rfl,t⟩:=a3 v hv; exact HQ t) (by decide) q
 ·obtain⟨b,e1,t1⟩:=kp h' k x hx
  obtain⟨c,e2,t2⟩:=kp h' k z hz
  rw [e1,e2]
  exact Mh (s:={s with heap:=h'}) hu t1 t2 (by rw [hm x hx,hm z hz]) q
theorem Jz{a:Addr}{pr:List (Value×(ic×Int))}{n:Nat}{P:qy->ai->Prop}(hu:A.units+2 < cLine)(ho:s.heap.get? a=some (cf "list" (pr.map (·.1)).toArray n))(hl:pr.length<=sizeLine)(y: ∀q∈pr, ∃b,q.1=ak b/\T3 prog w s.heap q.2 b)(nk:(pr.map (·.2)).Nodup)
  (h: ∀(h':Heap) (out:List Value) (c:Nat),rA rm pr out->h'.get? a=some (cf "list" out.toArray c)->(∀b ob,b≠a->s.heap.get? b=some ob->h'.get? b=some ob)->P (.done (.ret .none)) {s with heap:=h'}):
  wpAny (model prog w) A (dF.«list.sort» ⟨[.ref a], []⟩) P E s:=by
 have nv:(pr.map (·.1)).Nodup:=by
  refine cM.mpr fun i j hi hj hij z=> ?_
  rw [ae]at hi hj
  rw [bp,bp]at z
  obtain⟨b,e1,o1,n1,c1,t1,p1,p2,p3,p4⟩:=y _ (a_ hi)
  obtain⟨b',e2,o2,n2,c2,t2,q1,q2,q3,q4⟩:=y _ (a_ hj)
  rw [e1,e2]at z
  cases z
  rw [p1]at q1
  cases q1
  rw [p3]at q3
  simp only [Data.seq.injEq,Array.mk.injEq,List.cons.injEq,Value.ref.injEq,Value.int.injEq,and_true]at q3
  obtain⟨⟨rfl,k2,_⟩,_⟩:=q3
  have:=(cM.mp nk) i j (by rw [ae]; exact hi) (by rw [ae]; exact hj) hij
  rw [bp,bp]at this
  exact this (Prod.ext (p4.inj q4) k2)
 have kp: ∀h':Heap,(∀b ob,b≠a->s.heap.get? b=some ob->h'.get? b=some ob)-> ∀q∈pr, ∃b,q.1=ak b/\T3 prog w h' q.2 b:=fun h' k q hq=>by
  obtain⟨b,e,t⟩:=y q hq
  exact⟨b,e,t.keep fun c o hc z=>k c o (by rintro rfl; rw [ho]at z; cases z; exact absurd (show cR "list"=cR "tuple" from hc.1) (by decide)) z⟩
 refine zo (lt:=rm) (κ:=tuples' false) rfl NA nv nk ho (by rw [ae]; exact hl) (fun h2 h' Q k q=> ?_) (fun h' k x hx z hz Q q=> ?_) h
 ·obtain⟨fs,a1,a2,a3⟩:=KP (prog:=prog) (w:=w) (h:=h') (pr:=pr) (kp h' k)
  rw [ae]at h2
  exact kat_kind (s:={s with heap:=h'}) (T:= .type "tuple") a1 (by omega) (fun v hv=>by obtain⟨r,b,rfl,t⟩:=a3 v hv; exact FI t) (by decide) q
 ·obtain⟨b,e1,t1⟩:=kp h' k x hx
  obtain⟨c,e2,t2⟩:=kp h' k z hz
  rw [e1,e2]
  exact Ma (s:={s with heap:=h'}) hu t1 t2 q
end
structure mC(h:Heap)(d:Addr)(es:Array eL)(ep:Nat):Prop where
 ex: ∃o,h.get? d=some o/\o.ExactDict/\o.data= .dict es ep
theorem mC.at{h h':Heap}{d:Addr}{es:Array eL}{ep:Nat}(x:mC h d es ep)(k: ∀o,h.get? d=some o->h'.get? d=some o):mC h' d es ep:=let⟨o,h1,r⟩:=x.ex; ⟨o,k o h1,r⟩
def k_(d:Addr)(i n ep:Nat):Obj:={cls:= .type "dict_keyiterator",data:= .fields #[.ref d, .int i 0, .int n 0, .int ep 0]}
section
variable {prog:aq}{w:World}{A:bA}{E:Value->ai->Prop}{s:ai}{d:Addr}{es:Array eL}{ep:Nat}
theorem mC.ty(x:mC s.heap d es ep):s.TypeIs (.ref d) "dict":=let⟨o,h1,h2,_⟩:=x.ex; ⟨o,h1,h2.1⟩
theorem HG{Q:Value->ai->Prop}(hd:(d==jd)=false)(x:mC s.heap d es ep)(h:Q (.ref s.heap.objs.size) {s with heap:=s.heap.push (k_ d 0 es.size ep)}):wpAny (model prog w) A (vD (.ref d)) Q E s:=by
 have ty:=x.ty
 obtain⟨o,k1,k2,k3⟩:=x.ex
 refine jG ty PySem.F.slot_dict_iter (bS PySem.F.slot_dict_iter ty PySem.F.entry_dict_iter ?_ (PySem.F.args_dict_iter_1 _))
 unfold dF.«dict.__iter__»
 refine aa ?_
 unfold Builtin.Dict.dictSlotNone
 refine aa (wpAny_notOrdered_dict ty ?_)
 show wpAny _ _ (pure (ak d)) _ _ s
 refine af ?_
 show wpAny _ _ (pC d >>=_) _ _ s
 unfold pC
 rw [if_neg (by rw [hd]; exact aF)]
 refine aa (af ?_)
 refine aa (s9 k1 k3 ?_)
 refine aa (wt k1 k3 ?_)
 refine aa (bw (af ⟨_,rfl,"dict_keyiterator",_,⟨_,az _ rfl,rfl⟩,jj.lookup, ?_⟩))
 simpa [eS,k_]using h
theorem zR{I:Addr}{i:Nat}{Q:Option Value->ai->Prop}(hh:A.handled=none)(hI:s.heap.get? I=some (k_ d i es.size ep))(x:mC s.heap d es ep)
  (h1: ∀(hi:i < es.size) (h':Heap),h'.get? I=some (k_ d (i+1) es.size ep)->bR I s.heap h'->Q (some es[i].key) {s with heap:=h'})
  (h2:es.size<=i-> ∀h',E1 I s.heap h'->Q none {s with heap:=h'}):wpAny (model prog w) A (je (.ref I)) Q E s:=by
 have ty:s.TypeIs (.ref I) "dict_keyiterator":=⟨_,hI,rfl⟩
 obtain⟨o,k1,k2,k3⟩:=x.ex
 unfold je
 refine aa (nI (cZ (name:=iF "__next__") ty jj (bS jj ty PySem.F.entry_dict_keyiterator_next ?_ (PySem.F.args_dict_keyiterator_next_1 _))))
 refine aa (af ?_)
 refine aa ?_
 refine aa ?_
 first | refine aa (vP ty (af ?_)) | refine aa (Av ty (af ?_))
 refine aa (wpAny_fieldsOf hI rfl ?_)
 have own:wu "dict_keyiterator"=false:=by decide
 simp only [own,bo,if_false]
 show wpAny _ _ (if(ak d==aR)=true then _ else _) _ _ s
 rw [if_neg (show ¬((ak d==aR)=true)from aF)]
 refine aa (af ?_)
 refine aa (s9 k1 k3 ?_)
 rw [if_neg (by simp)]
 refine aa (af ?_)
 refine aa (wt k1 k3 ?_)
 rw [if_neg (by simp)]
 refine af ?_
 by_cases hi:i < es.size
 ·simp only [show ¬((i:Int) < 0)from by omega,if_false,cW,di hi]
  refine aa ?_
  first | refine aa (vP ty (af ?_)) | refine aa (Av ty (af ?_))
  refine aa (wpAny_isOneOf_keyiter ty ?_)
  show wpAny _ _ (iq (.ref I) 1 (eS ((i:Int)+1)) >>=_) _ _ s
  refine aa (dC hI rfl (by show 1 < 4; decide) ?_)
  have hI':(s.heap.update I (eN (·.setIfInBounds 1 (eS ((i:Int)+1))))).get? I=some (k_ d (i+1) es.size ep):=dj _ hI rfl
  refine aa (bM ?_)
  refine aa (wpAny_isOneOf_keyiter (s:={s with heap:=s.heap.update I (eN (·.setIfInBounds 1 (eS ((i:Int)+1))))}) ⟨_,hI',rfl⟩ ?_)
  show wpAny _ _ (pure es[i].key) _ _ _
  exact af (af ⟨_,rfl,af (h1 hi _ hI' (bB ..))⟩)
 ·have hi:es.size<=i:=by omega
  simp only [show ¬((i:Int) < 0)from by omega,if_false,cW,Array.getElem?_eq_none hi]
  refine aa ?_
  first | refine aa (vP ty (af ?_)) | refine aa (Av ty (af ?_))
  show wpAny _ _ (iq (.ref I) 0 .none >>=_) _ _ s
  refine aa (dC hI rfl (by show 0 < 4; decide) ?_)
  show wpAny _ _ (vH (.type "StopIteration") [] >>=_) _ _ _
  refine aa ?_
  simp only [vH,newTuple]
  refine aa (bw ?_ (by size_fits))
  refine aa (m:=ir _ _) (vN (a:=aR) (by first | rfl | (simp only [ir]; rfl)) ?_)
  refine bw ?_ (by size_fits)
  simp only [raiseNew]
  refine aa (As ?_)
  rw [show A.in1.handled=none from hh]
  refine aa (af (E2 ?_))
  refine aa (fj (T:="StopIteration") (b:=true) ⟨_,az _ rfl,rfl⟩ yE ?_)
  exact af (h2 hi _ (((bB ..).extBut.push _).push _))
theorem C8(hh:A.handled=none){I:Addr}(hId:I≠d):Walks prog w A I [I,d] [I] es.size (fun i v=> ∃hi:i < es.size,v=es[i].key) (fun i h=>h.get? I=some (k_ d i es.size ep)/\mC h d es ep) where
 sub:=fun b hb=>by rw [aN.mp hb]; exact ck
 frame:=fun i h h' ⟨x,y⟩ hk=>⟨hk I (by simp) _ x,y.at fun o e=>hk d (by simp) o e⟩
 item:=fun i s Q E hi ⟨x,y⟩ hQ=>zR hh x y (fun hi h' hI' sb=>hQ _ h' s.toks ⟨hi,rfl⟩ ⟨hI',y.at fun o e=>(sb.2 d hId.symm).trans e⟩ fun b ob hb q=>(sb.2 b (by simpa using hb)).trans q) fun he=>absurd hi (by omega)
 done:=fun s Q E ⟨x,y⟩ hQ=>zR hh x y (fun hi=>absurd hi (by omega)) fun _ h' eb=>hQ h' s.toks fun b ob hb q=>eb b ob (by simpa using hb) q
 self:=fun i s Q E ⟨x,y⟩ hQ=>by
  have ty:s.TypeIs (.ref I) "dict_keyiterator":=⟨_,x,rfl⟩
  refine jG ty PySem.F.slot_dict_keyiterator_iter (bS PySem.F.slot_dict_keyiterator_iter ty PySem.F.entry_dict_keyiterator_iter ?_ (PySem.F.args_dict_keyiterator_iter_1 _))
  show wpAny _ _ (ret (.ref I)) _ _ s
  exact af ⟨_,rfl,"dict_keyiterator",_,ty,jj.lookup,hQ⟩
end
section
variable {prog:aq}{w:World}{A:bA}{E:Value->ai->Prop}{s:ai}{d:Addr}{es:Array eL}{ep:Nat}
theorem yT{Q:List Value->ai->Prop}(hh:A.handled=none)(hd:(d==jd)=false)(x:mC s.heap d es ep)(mw:es.size<=sizeLine)
  (hQ: ∀h' tk,s.heap.objs.size < h'.objs.size->(∀b ob,s.heap.get? b=some ob->h'.get? b=some ob)->Q (es.toList.map (·.key)) {s with heap:=h',toks:=tk}):wpAny (model prog w) A (collect (.ref d)) Q E s:=by
 obtain⟨o,k1,k2,k3⟩:=x.ex
 have hlt:d < s.heap.objs.size:=av k1
 unfold collect
 refine aa (yD (dH xn ?_))
 rw [cK xo _]
 show wpAny _ A.in1 (newList [] >>=fun l=>again (.builtin "list.__iadd__" ⟨[l, .ref d], []⟩)) _ _ s
 refine aa (bw ?_)
 refine af ⟨dW gB _,dH AD ?_⟩
 rw [cK gB _]
 have x1:mC (s.heap.push {cls:= .type "list",data:= .seq ([]:List Value).toArray}) d es ep:=x.at fun o e=>ag _ e
 have hS₁:(s.heap.push {cls:= .type "list",data:= .seq ([]:List Value).toArray}).get? s.heap.objs.size=some {cls:= .type "list",data:= .seq ([]:List Value).toArray}:=az _ rfl
 have h1:fV (.ref s.heap.objs.size) (.ref d)=false:=by simp [fV,bY hlt]
 have ty:gY {s with heap:=s.heap.push {cls:= .type "list",data:= .seq ([]:List Value).toArray}} (.ref d) "dict":=x1.ty (s:={s with heap:=s.heap.push {cls:= .type "list",data:= .seq ([]:List Value).toArray}})
 show wpAny _ A.in1 (fc (.ref s.heap.objs.size) (.ref d) (.ref s.heap.objs.size)) _ _ _
 unfold fc
 refine aa (fL ty ?_)
 rw [if_neg (by rw [h1]; decide)]
 refine aa (HG (s:={s with heap:=s.heap.push {cls:= .type "list",data:= .seq ([]:List Value).toArray}}) hd x1 ?_)
 refine aa (bM ?_)
 unfold xp
 have x2:mC ((s.heap.push {cls:= .type "list",data:= .seq ([]:List Value).toArray}).push (k_ d 0 es.size ep)) d es ep:=x1.at fun o e=>ag _ e
 have ty2:gY {s with heap:=(s.heap.push {cls:= .type "list",data:= .seq ([]:List Value).toArray}).push (k_ d 0 es.size ep)} (.ref d) "dict":=x2.ty (s:={s with heap:=(s.heap.push {cls:= .type "list",data:= .seq ([]:List Value).toArray}).push (k_ d 0 es.size ep)})
 refine aa (gT ty2 PySem.F.slot_dict_len.lookup ?_)
 generalize hid:("dict.__len__":String)=id0
 dsimp only
 rw [show splitId id0=some ("dict","__len__")from by subst hid; decide +kernel]
 subst hid
 dsimp only
 refine aa (fj (b:=true) ty2 (by rw [qt]; kernel_rfl) ?_)
 rw [if_neg (show ¬(!true)=true by decide)]
 refine eD (fun _=> ?_) fun hs=>(hs (by decide +kernel)).elim
 refine aa (fL ty2 (af ?_))
 have szl:(s.heap.push {cls:= .type "list",data:= .seq ([]:List Value).toArray}).objs.size=s.heap.objs.size+1:=cO ..
 have hne:s.heap.objs.size≠(s.heap.push {cls:= .type "list",data:= .seq ([]:List Value).toArray}).objs.size:=by rw [szl]; exact aJ (gz _)
 have hId:(s.heap.push {cls:= .type "list",data:= .seq ([]:List Value).toArray}).objs.size≠d:=by rw [szl]; exact bY (cH hlt)
 have hL2:((s.heap.push {cls:= .type "list",data:= .seq ([]:List Value).toArray}).push (k_ d 0 es.size ep)).get? s.heap.objs.size=some {cls:= .type "list",data:= .seq ([]:List Value).toArray}:=ag _ hS₁
 have hI2:((s.heap.push {cls:= .type "list",data:= .seq ([]:List Value).toArray}).push (k_ d 0 es.size ep)).get? (s.heap.push {cls:= .type "list",data:= .seq ([]:List Value).toArray}).objs.size=some (k_ d 0 es.size ep):=az _ rfl
 have hk2: ∀b ob,s.heap.get? b=some ob->((s.heap.push {cls:= .type "list",data:= .seq ([]:List Value).toArray}).push (k_ d 0 es.size ep)).get? b=some ob:=fun b ob e=>ag _ (ag _ e)
 generalize hI0:(s.heap.push {cls:= .type "list",data:= .seq ([]:List Value).toArray}).objs.size=I0 at hne hId hI2 szl ⊢
 generalize hH0:(s.heap.push {cls:= .type "list",data:= .seq ([]:List Value).toArray}).push (k_ d 0 es.size ep)=H0 at hL2 hI2 hk2 x2 ⊢
 have fin: ∀(h':Heap) (c:Nat),bR s.heap.objs.size H0 h'->h'.get? s.heap.objs.size=some {cls:= .type "list",dict:=none,data:= .seq #[] c,slots:= #[]}->
   fK (model prog w) A (.builtin "list.extend.loop" ⟨[.ref s.heap.objs.size, .ref I0, .ref s.heap.objs.size], []⟩) (fun r s'=>match r with
       | vI (Flow.ret v)=>
        wpAny (model prog w) A
         (match v with
         | ak a=>do
          let __do_lift<-load a
          match __do_lift.data with
           | yz xs epoch=>pure xs.toList
           | x=>jk "internal:collect"
         | x=>jk "internal:collect")
         Q E s'
       | vI a=>False
       | Except.error e=>E e s') {s with heap:=h'}:=fun h' c sb hl=>by
  refine codeAny_extend_loopS ((C8 (A:=A.in1) (by simpa using hh) hId).toS) mw s.heap.objs.size (by simp only [aO,dR,or_false,not_or]; exact⟨hne,bY hlt⟩) _ es.size 0 _ #[] c (by omega) (bN _)
   ⟨(sb.2 I0 hne.symm).trans hI2,x2.at fun o e=>(sb.2 d (aJ hlt)).trans e⟩ hl (ItemsOf.nil _) fun s' acc c' hm hS' hacc=> ?_
  dsimp only
  refine aa (wpAny_load hS' ?_)
  refine af ?_
  obtain⟨h2,g',d',tk',os'⟩:=s'
  have eg:g'=s.gens:=hm.gens
  have ed:d'=s.drawn:=hm.drawn
  have eo:os'=s.os:=hm.os
  subst eg; subst ed; subst eo
  have e:acc.toList=es.toList.map (·.key):=by
   apply eV
   intro i
   rw [aA]
   by_cases hi:i < es.size
   ·have hi2:i < acc.size:=by rw [hacc.1]; exact hi
    have h1:acc[i]? =some acc[i]:=di hi2
    obtain⟨_,hv⟩:=hacc.2 i _ h1
    have h3:acc.toList[i]? =some acc[i]:=by rw [bD]; exact h1
    have h4:es.toList[i]? =some es[i]:=by simp [hi]
    rw [h3,h4,hv]
    rfl
   ·have h1:acc.toList[i]? =none:=bt (by rw [aj,hacc.1]; omega)
    have h2:es.toList[i]? =none:=bt (by rw [aj]; omega)
    rw [h1,h2]
    rfl
  rw [e]
  refine hQ h2 tk' (av hS') (fun b ob e=> ?_)
  have hb:=av e
  refine hm.heap b ob ?_ ((sb.2 b (aJ hb)).trans (hk2 b ob e))
  simp only [aO,dR,or_false,not_or]
  exact⟨aJ hb,by rw [szl]; exact aJ (cH hb)⟩
 refine eD (fun _=> ?_) fun _=> ?_
 ·refine aa (fw ?_)
  unfold BK
  refine aa (aa (fW hL2 rfl ?_ (by show 0<=_; omega) (by show 1<=_; rw [eA]; omega)))
  have hL3:=eE hL2 fun x=>x.push aR
  refine fW hL3 rfl ?_ (by show 1<=_; rw [eA]; omega) (by show 0<=_; omega)
  have hL4:=eE hL3 fun x=>x.pop
  exact af ⟨dW cL _,fin _ _ ((bB ..).trans (bB ..)) hL4⟩
 ·exact af ⟨dW cL _,fin _ _ (dZ _ _) hL2⟩
end
def iB(f0 f1 ok ov:Value)(d:Addr)(i n ep:Nat):Obj:={cls:= .type "dict_itemiterator",data:= .fields #[f0,f1, .ref d, .int i 0, .int n 0, .int ep 0,ok,ov]}
def yM(d:Addr):Obj:={cls:= .type "dict_items",data:= .fields #[.ref d]}
def fZ(e:eL):Obj:={cls:= .type "tuple",data:= .seq #[e.key,e.val]}
section
variable {prog:aq}{w:World}{A:bA}{E:Value->ai->Prop}{s:ai}{d v:Addr}{es:Array eL}{ep:Nat}
theorem DD(hd:(d==jd)=false):MeetsIn prog w (dF.«dict.items» ⟨[.ref d], []⟩) (fun _ R s=>mC s.heap d es ep/\R (.ok (.ret (.ref s.heap.objs.size))) {s with heap:=s.heap.push (yM d)}):=
 .of_wp fun A R s ⟨x,h⟩=>by
  unfold dF.«dict.items»
  refine aa ?_
  unfold Builtin.Dict.noArgs
  refine aa (wpAny_notOrdered_dict x.ty ?_)
  show wpAny _ _ (pure d) _ _ s
  refine af ?_
  show wpAny _ _ (pC d >>=_) _ _ s
  unfold pC
  rw [if_neg (by rw [hd]; exact aF)]
  refine aa (af ?_)
  exact aa (bw (af ⟨_,rfl,h⟩))
theorem Bi{Q:Value->ai->Prop}(hv:s.heap.get? v=some (yM d))(x:mC s.heap d es ep)(h:Q (.ref s.heap.objs.size) {s with heap:=s.heap.push (iB .none (.bool false) .none .none d 0 es.size ep)}):wpAny (model prog w) A (vD (.ref v)) Q E s:=by
 have ty:s.TypeIs (.ref v) "dict_items":=⟨_,hv,rfl⟩
 obtain⟨o,k1,k2,k3⟩:=x.ex
 refine jG ty PySem.F.slot_dict_items_iter (bS PySem.F.slot_dict_items_iter ty PySem.F.entry_dict_items_iter ?_ (PySem.F.args_dict_items_iter_1 _))
 unfold dF.«dict_items.__iter__»
 refine aa (af ?_)
 refine aa ?_
 unfold Builtin.Dict_items.dictOf
 refine aa (bK hv rfl (x:= .ref d) rfl (af ?_))
 refine aa ?_
 unfold Builtin.Dict_items.newIterator
 refine aa (s9 k1 k3 ?_)
 refine aa (wt k1 k3 ?_)
 have own:wu "dict_itemiterator"=true:=by decide
 simp only [own,if_true]
 refine bw (af ⟨_,rfl,"dict_itemiterator",_,⟨_,az _ rfl,rfl⟩,rh.lookup, ?_⟩) (by simp only [sizeOk,Builtin.Dict_items.ownedTupleFields,aC,ao,aL,dG,eA]; omega)
 simpa [eS,iB,Builtin.Dict_items.ownedTupleFields]using h
theorem FT{M:Model}{a:Addr}{Q:Option Obj->ai->Prop}(h:Q (s.heap.get? a) s):wpAny M A (E3 a) Q E s:=fun Γ p hΓ=>h
theorem uG{I:Addr}{i:Nat}{f0 f1 ok ov:Value}{Q:Option Value->ai->Prop}(hh:A.handled=none)(hI:s.heap.get? I=some (iB f0 f1 ok ov d i es.size ep))(hf0:f0= .none\/ ∃a:Addr,f0=eS a)(x:mC s.heap d es ep)
  (h1: ∀(hi:i < es.size) (h':Heap) (g0 g1 gk gv:Value),(g0= .none\/ ∃a:Addr,g0=eS a)->h'.get? I=some (iB g0 g1 gk gv d (i+1) es.size ep)->h'.get? s.heap.objs.size=some (fZ es[i])->(∀b o,b≠I->s.heap.get? b=some o->h'.get? b=some o)->Q (some (.ref s.heap.objs.size)) {s with heap:=h'})
  (h2:es.size<=i-> ∀h',E1 I s.heap h'->Q none {s with heap:=h'}):wpAny (model prog w) A (je (.ref I)) Q E s:=by
 obtain⟨hp,g,dr,tk,os⟩:=s
 have ty:gY ⟨hp,g,dr,tk,os⟩ (.ref I) "dict_itemiterator":=⟨_,hI,rfl⟩
 obtain⟨o,k1,k2,k3⟩:=x.ex
 unfold je
 refine aa (nI (cZ (name:=iF "__next__") ty rh (bS rh ty PySem.F.entry_dict_itemiterator_next ?_ (PySem.F.args_dict_itemiterator_next_1 _))))
 refine aa (af ?_)
 refine aa ?_
 refine aa ?_
 first | refine aa (vL ty (af ?_)) | refine aa (yL ty (af ?_))
 refine aa (wpAny_fieldsOf hI rfl ?_)
 have own:wu "dict_itemiterator"=true:=by decide
 simp only [own,if_true]
 show wpAny _ _ (if(ak d==aR)=true then _ else _) _ _ _
 rw [if_neg (show ¬((ak d==aR)=true)from aF)]
 refine aa (af ?_)
 refine aa (s9 k1 k3 ?_)
 rw [if_neg (by simp)]
 refine aa (af ?_)
 refine aa (wt k1 k3 ?_)
 rw [if_neg (by simp)]
 refine af ?_
 by_cases hi:i < es.size
 ·simp only [show ¬((i:Int) < 0)from by omega,if_false,cW,di hi]
  refine aa ?_
  first | refine aa (vL ty (af ?_)) | refine aa (yL ty (af ?_))
  refine aa (BN ty ?_)
  show wpAny _ _ (iq (.ref I) 3 (eS ((i:Int)+1)) >>=_) _ _ ⟨hp,g,dr,tk,os⟩
  refine aa (cq hI (by show 3 < 8; decide) fun a1 e1 s1=> ?_)
  replace s1:bR I hp a1:=s1
  replace e1:a1.get? I=some (iB f0 f1 ok ov d (i+1) es.size ep):=e1
  have ty1:gY ⟨a1,g,dr,tk,os⟩ (.ref I) "dict_itemiterator":=⟨_,e1,rfl⟩
  refine aa (bM ?_)
  refine aa (BN ty1 ?_)
  refine aa (BN ty1 ?_)
  show wpAny _ _ (Builtin.Dict_items.pairFromOwner (.ref I) 6 es[i].key es[i].val) _ _ ⟨a1,g,dr,tk,os⟩
  unfold Builtin.Dict_items.pairFromOwner
  refine aa (qu ?_)
  have e2:(a1.push (fZ es[i])).get? I=some (iB f0 f1 ok ov d (i+1) es.size ep):=ag _ e1
  have z1:a1.objs.size=hp.objs.size:=s1.1
  have hil:I < hp.objs.size:=av hI
  have t2:(a1.push (fZ es[i])).get? hp.objs.size=some (fZ es[i]):=by rw [<-z1]; exact az _ rfl
  have q2: ∀b o,b≠I->hp.get? b=some o->(a1.push (fZ es[i])).get? b=some o:=fun b o hb e=>ag _ (s1.extBut b o hb e)
  show wpAny _ _ (Builtin.Dict_items.ownedTupleIsFree (.ref I) >>=_) _ _ ⟨a1.push (fZ es[i]),g,dr,tk,os⟩
  rw [z1]
  generalize a1.push (fZ es[i])=a2 at e2 t2 q2
  have free: ∀{Q':Value->ai->Prop},(∀h' g0 g1 gk gv,(g0= .none\/ ∃a:Addr,g0=eS a)->h'.get? I=some (iB g0 g1 gk gv d (i+1) es.size ep)->h'.get? hp.objs.size=some (fZ es[i])->(∀b o,b≠I->hp.get? b=some o->h'.get? b=some o)->Q' (.ref hp.objs.size) ⟨h',g,dr,tk,os⟩)-> ∀{E':Value->ai->Prop},
    wpAny (model prog w) A.in1 (do
     let old:= [<-field (.ref I) 6, <-field (.ref I) (6+1)]
     iq (.ref I) 6 es[i].key; iq (.ref I) (6+1) es[i].val
     iq (.ref I) 0 (eS hp.objs.size); iq (.ref I) 1 (.bool false)
     letGo old [.ref hp.objs.size]
     pure (.ref hp.objs.size)) Q' E' ⟨a2,g,dr,tk,os⟩:=fun{Q'} hQ {E'}=>by
   refine aa (bK e2 rfl (x:=ok) rfl ?_)
   refine aa (bK e2 rfl (x:=ov) rfl ?_)
   refine aa (cq e2 (by show 6 < 8; decide) fun a3 e3 s3=> ?_)
   replace s3:bR I a2 a3:=s3
   replace e3:a3.get? I=some (iB f0 f1 es[i].key ov d (i+1) es.size ep):=e3
   refine aa (cq e3 (by show 7 < 8; decide) fun a4 e4 s4=> ?_)
   replace s4:bR I a3 a4:=s4
   replace e4:a4.get? I=some (iB f0 f1 es[i].key es[i].val d (i+1) es.size ep):=e4
   refine aa (cq e4 (by show 0 < 8; decide) fun a5 e5 s5=> ?_)
   replace s5:bR I a4 a5:=s5
   replace e5:a5.get? I=some (iB (eS hp.objs.size) f1 es[i].key es[i].val d (i+1) es.size ep):=e5
   refine aa (cq e5 (by show 1 < 8; decide) fun a6 e6 s6=> ?_)
   replace s6:bR I a5 a6:=s6
   replace e6:a6.get? I=some (iB (eS hp.objs.size) (.bool false) es[i].key es[i].val d (i+1) es.size ep):=e6
   refine aa (E5 (af (hQ a6 _ _ _ _ (.inr ⟨_,rfl⟩) e6 ?_ ?_)))
   ·exact s6.extBut _ _ (bY hil) (s5.extBut _ _ (bY hil) (s4.extBut _ _ (bY hil) (s3.extBut _ _ (bY hil) t2)))
   ·exact fun b o hb e=>s6.extBut b o hb (s5.extBut b o hb (s4.extBut b o hb (s3.extBut b o hb (q2 b o hb e))))
  have fin: ∀h' g0 g1 gk gv,(g0= .none\/ ∃a:Addr,g0=eS a)->h'.get? I=some (iB g0 g1 gk gv d (i+1) es.size ep)->h'.get? hp.objs.size=some (fZ es[i])->(∀b o,b≠I->hp.get? b=some o->h'.get? b=some o)->Q (some (.ref hp.objs.size)) ⟨h',g,dr,tk,os⟩:=fun h' g0 g1 gk gv c1 c2 c3 c4=>h1 hi h' g0 g1 gk gv c1 c2 c3 c4
  refine aa ?_
  unfold Builtin.Dict_items.ownedTupleIsFree
  refine aa (bK e2 rfl (x:=f0) rfl ?_)
  rcases hf0 with rfl | ⟨a,rfl⟩
  ·refine af ?_
   rw [if_pos rfl]
   exact free fun h' g0 g1 gk gv c1 c2 c3 c4=>af ⟨_,rfl,af (fin h' g0 g1 gk gv c1 c2 c3 c4)⟩
  ·refine aa (FT ?_)
   cases ea:a2.get? a with
   | none=>
    refine eD (fun _=> ?_) fun z=>absurd ?_ z
    ·refine af ?_
     rw [if_pos rfl]
     exact free fun h' g0 g1 gk gv c1 c2 c3 c4=>af ⟨_,rfl,af (fin h' g0 g1 gk gv c1 c2 c3 c4)⟩
    ·show(a2.get? ((a:Int).toNat)).isNone=true
     rw [cW,ea]
     rfl
   | some oa=>
    refine eD (fun z=>absurd (show(a2.get? ((a:Int).toNat)).isNone=true from z) (by rw [cW,ea]; exact aF)) fun _=> ?_
    refine aa (bK e2 rfl (x:=f1) rfl ?_)
    refine eD (fun _=> ?_) fun _=> ?_
    ·refine aa (cq e2 (by show 1 < 8; decide) fun a3 e3 s3=> ?_)
     replace s3:bR I a2 a3:=s3
     replace e3:a3.get? I=some (iB (eS a) (.bool true) ok ov d (i+1) es.size ep):=e3
     refine af ?_
     rw [if_neg aF]
     exact af (af ⟨_,rfl,af (fin a3 _ _ _ _ (.inr ⟨a,rfl⟩) e3 (s3.extBut _ _ (bY hil) t2) fun b o hb e=>s3.extBut b o hb (q2 b o hb e))⟩)
    ·refine af ?_
     rw [if_neg aF]
     exact af (af ⟨_,rfl,af (fin a2 _ _ _ _ (.inr ⟨a,rfl⟩) e2 t2 q2)⟩)
 ·have hi:es.size<=i:=by omega
  simp only [show ¬((i:Int) < 0)from by omega,if_false,cW,Array.getElem?_eq_none hi]
  refine aa ?_
  first | refine aa (vL ty (af ?_)) | refine aa (yL ty (af ?_))
  show wpAny _ _ (iq (.ref I) 2 .none >>=_) _ _ ⟨hp,g,dr,tk,os⟩
  refine aa (dC hI rfl (by show 2 < 8; decide) ?_)
  show wpAny _ _ (vH (.type "StopIteration") [] >>=_) _ _ _
  refine aa ?_
  simp only [vH,newTuple]
  refine aa (bw ?_ (by size_fits))
  refine aa (m:=ir _ _) (vN (a:=aR) (by first | rfl | (simp only [ir]; rfl)) ?_)
  refine bw ?_ (by size_fits)
  simp only [raiseNew]
  refine aa (As ?_)
  rw [show A.in1.handled=none from hh]
  refine aa (af (E2 ?_))
  refine aa (fj (T:="StopIteration") (b:=true) ⟨_,az _ rfl,rfl⟩ yE ?_)
  exact af (h2 hi _ (((bB ..).extBut.push _).push _))
end
section
variable {prog:aq}{w:World}{A:bA}{E:Value->ai->Prop}{s:ai}{d v:Addr}{es:Array eL}{ep:Nat}
theorem yj{I L:Addr}{res:Value}{R:Result->ai->Prop}{s0:ai}(hh:A.in1.handled=none)(mw:es.size<=sizeLine)(hLI:L≠I)(hId:I≠d)(hLd:L≠d){m0:Nat}:
  ∀(k i:Nat) (h:Heap) (bs:List Addr) (c:Nat),m0<=h.objs.size->(∀b∈bs,m0<=b)->es.size - i=k->i<=es.size->(∃f0 f1 ok ov,(f0= .none\/ ∃a:Addr,f0=eS a)/\h.get? I=some (iB f0 f1 ok ov d i es.size ep))->mC h d es ep->
   h.get? L=some {cls:= .type "list",dict:=none,data:= .seq (bs.map ak).toArray c,slots:= #[]}->bs.length=i->(∀j b,bs[j]? =some b-> ∃hj:j < es.size,h.get? b=some (fZ es[j]))->(∀b ob,b≠L->b≠I->s0.heap.get? b=some ob->h.get? b=some ob)->
   (∀(h':Heap) (bs':List Addr) (c':Nat),(∀b∈bs',m0<=b)->h'.get? L=some {cls:= .type "list",dict:=none,data:= .seq (bs'.map ak).toArray c',slots:= #[]}->bs'.length=es.size->(∀j b,bs'[j]? =some b-> ∃hj:j < es.size,h'.get? b=some (fZ es[j]))->(∀b ob,b≠L->b≠I->s0.heap.get? b=some ob->h'.get? b=some ob)->R (.ok (.ret res)) {s0 with heap:=h'})->
   fK (model prog w) A (.builtin "list.extend.loop" ⟨[.ref L, .ref I,res], []⟩) R {s0 with heap:=h}:=by
 intro k
 induction k with
 | zero=>
  intro i h bs c hm1 hm2 hk hi ⟨f0,f1,ok,ov,hf,hI⟩ x hL hb hp hs hR
  have hin:i=es.size:=by omega
  subst hin
  refine dH PySem.F.entry_extend_loop ?_
  rw [cK cL _]
  show wpAny _ A.in1 (je (.ref I) >>=_) _ _ _
  refine aa (uG (s:={s0 with heap:=h}) hh hI hf x (fun hi=>absurd hi (dz _)) fun _ h' eb=> ?_)
  refine af (hR h' bs c hm2 (eb _ _ hLI hL) hb (fun j b e=> ?_) fun b ob n1 n2 e=>eb b ob n2 (hs b ob n1 n2 e))
  obtain⟨hj,e2⟩:=hp j b e
  exact⟨hj,eb _ _ (by rintro rfl; rw [hI]at e2; exact absurd (show cR "dict_itemiterator"=cR "tuple" from congrArg Obj.cls (aH e2)) (by decide)) e2⟩
 | succ k ih=>
  intro i h bs c hm1 hm2 hk hi ⟨f0,f1,ok,ov,hf,hI⟩ x hL hb hp hs hR
  refine dH PySem.F.entry_extend_loop ?_
  rw [cK cL _]
  show wpAny _ A.in1 (je (.ref I) >>=_) _ _ _
  refine aa (uG (s:={s0 with heap:=h}) hh hI hf x (fun hi h' g0 g1 gk gv c1 c2 c3 c4=> ?_) fun hge=>absurd hge (by omega))
  have hL':=c4 L _ hLI hL
  have hLlt:L < h.objs.size:=av hL
  have hIlt:I < h.objs.size:=av hI
  have sz:(bs.map ak).toArray.size=i:=by rw [aC,ae,hb]
  show wpAny _ A.in1 (updateSeq L (·.push (.ref h.objs.size)) >>=_) _ _ _
  refine aa ?_
  have up: ∀b ob,b≠L->h'.get? b=some ob->(h'.update L (cm (·.push (.ref h.objs.size)))).get? b=some ob:=fun b ob hb e=>(cB _ _ (fun z:L=b=>hb z.symm)).trans e
  obtain⟨cc,hc2⟩: ∃cc,(h'.update L (cm (·.push (.ref h.objs.size)))).get? L=some {cls:= .type "list",dict:=none,data:= .seq ((bs ++ [h.objs.size]).map ak).toArray cc,slots:= #[]}:=by
   have e:=eE (c:="list") hL' (·.push (.ref h.objs.size))
   have ep:((bs ++ [h.objs.size]).map ak).toArray=(bs.map ak).toArray.push (.ref h.objs.size):=by
    apply j7.mp
    rw [jF,bC]
    rfl
   rw [ep]
   exact⟨_,e⟩
  refine Lb hL' rfl (af ⟨dW cL _,ih (i+1) _ (bs ++ [h.objs.size]) cc (by show m0<=(h'.update L _).objs.size; rw [Heap.size_update]; exact bE hm1 (jy (av c3))) (fun b hb'=>(bP.mp hb').elim (hm2 b) fun z=>by rw [aN.mp z]; exact hm1) (by omega) (by omega) ⟨g0,g1,gk,gv,c1,up _ _ hLI.symm c2⟩ (x.at fun o e=>up _ _ hLd.symm (c4 _ _ hId.symm e)) hc2 (by rw [ao,hb]; rfl) (fun j b e=> ?_) (fun b ob n1 n2 e=>up _ _ n1 (c4 _ _ n2 (hs b ob n1 n2 e))) hR⟩) (by rw [sz]; omega) (by show((bs.map ak).toArray.push _).size<=sizeLine+1; rw [Array.size_push,sz]; omega)
  ·rw [EZ]at e
   split at e
   ·obtain⟨hj,e2⟩:=hp j b e
    refine⟨hj,up _ _ (by rintro rfl; rw [hL]at e2; exact absurd (show cR "list"=cR "tuple" from congrArg Obj.cls (aH e2)) (by decide)) (c4 _ _ (by rintro rfl; rw [hI]at e2; exact absurd (show cR "dict_itemiterator"=cR "tuple" from congrArg Obj.cls (aH e2)) (by decide)) e2)⟩
   ·rename_i hn
    have ej:j - bs.length=0:=by
     rcases mf (j - bs.length)with z | z
     ·exact z
     ·rw [bt (by simp; omega)]at e; cases e
    rw [ej]at e
    have hj:j=i:=by omega
    subst hj
    cases e
    exact⟨hi,up _ _ (bY hLlt) c3⟩
theorem vS{Q:List Value->ai->Prop}(hh:A.handled=none)(hv:s.heap.get? v=some (yM d))(x:mC s.heap d es ep)(mw:es.size<=sizeLine)
  (hQ: ∀(h':Heap) (bs:List Addr),s.heap.objs.size < h'.objs.size->(∀b ob,s.heap.get? b=some ob->h'.get? b=some ob)->bs.length=es.size->(∀b∈bs,s.heap.objs.size<=b)->(∀j b,bs[j]? =some b-> ∃hj:j < es.size,h'.get? b=some (fZ es[j]))->Q (bs.map ak) {s with heap:=h'}):wpAny (model prog w) A (collect (.ref v)) Q E s:=by
 have hlt:v < s.heap.objs.size:=av hv
 have hltd:d < s.heap.objs.size:=let⟨o,k1,_⟩:=x.ex; av k1
 unfold collect
 refine aa (yD (dH xn ?_))
 rw [cK xo _]
 show wpAny _ A.in1 (newList [] >>=fun l=>again (.builtin "list.__iadd__" ⟨[l, .ref v], []⟩)) _ _ s
 refine aa (bw ?_)
 refine af ⟨dW gB _,dH AD ?_⟩
 rw [cK gB _]
 have x1:mC (s.heap.push {cls:= .type "list",data:= .seq ([]:List Value).toArray}) d es ep:=x.at fun o e=>ag _ e
 have hS₁:(s.heap.push {cls:= .type "list",data:= .seq ([]:List Value).toArray}).get? s.heap.objs.size=some {cls:= .type "list",data:= .seq ([]:List Value).toArray}:=az _ rfl
 have h1:fV (.ref s.heap.objs.size) (.ref v)=false:=by simp [fV,bY hlt]
 have ty:gY {s with heap:=s.heap.push {cls:= .type "list",data:= .seq ([]:List Value).toArray}} (.ref v) "dict_items":=⟨_,ag _ hv,rfl⟩
 show wpAny _ A.in1 (fc (.ref s.heap.objs.size) (.ref v) (.ref s.heap.objs.size)) _ _ _
 unfold fc
 refine aa (fL ty ?_)
 rw [if_neg (by rw [h1]; decide)]
 refine aa (Bi (s:={s with heap:=s.heap.push {cls:= .type "list",data:= .seq ([]:List Value).toArray}}) (ag _ hv) x1 ?_)
 refine aa (bM ?_)
 unfold xp
 have x2:mC ((s.heap.push {cls:= .type "list",data:= .seq ([]:List Value).toArray}).push (iB .none (.bool false) .none .none d 0 es.size ep)) d es ep:=x1.at fun o e=>ag _ e
 have ty2:gY {s with heap:=(s.heap.push {cls:= .type "list",data:= .seq ([]:List Value).toArray}).push (iB .none (.bool false) .none .none d 0 es.size ep)} (.ref v) "dict_items":=⟨_,ag _ (ag _ hv),rfl⟩
 refine aa (gT ty2 PySem.F.slot_dict_items_len.lookup ?_)
 generalize hid:("dict_items.__len__":String)=id0
 dsimp only
 rw [show splitId id0=some ("dict_items","__len__")from by subst hid; decide +kernel]
 subst hid
 dsimp only
 refine aa (fj (b:=true) ty2 (by rw [qt]; kernel_rfl) ?_)
 rw [if_neg (show ¬(!true)=true by decide)]
 refine eD (fun _=> ?_) fun hs=>(hs (by decide +kernel)).elim
 refine aa (fL ty2 (af ?_))
 have szl:(s.heap.push {cls:= .type "list",data:= .seq ([]:List Value).toArray}).objs.size=s.heap.objs.size+1:=cO ..
 have hne:s.heap.objs.size≠(s.heap.push {cls:= .type "list",data:= .seq ([]:List Value).toArray}).objs.size:=by rw [szl]; exact aJ (gz _)
 have hId:(s.heap.push {cls:= .type "list",data:= .seq ([]:List Value).toArray}).objs.size≠d:=by rw [szl]; exact bY (cH hltd)
 have hL2:((s.heap.push {cls:= .type "list",data:= .seq ([]:List Value).toArray}).push (iB .none (.bool false) .none .none d 0 es.size ep)).get? s.heap.objs.size=some {cls:= .type "list",data:= .seq ([]:List Value).toArray}:=ag _ hS₁
 have hI2:((s.heap.push {cls:= .type "list",data:= .seq ([]:List Value).toArray}).push (iB .none (.bool false) .none .none d 0 es.size ep)).get? (s.heap.push {cls:= .type "list",data:= .seq ([]:List Value).toArray}).objs.size=some (iB .none (.bool false) .none .none d 0 es.size ep):=az _ rfl
 have hk2: ∀b ob,s.heap.get? b=some ob->((s.heap.push {cls:= .type "list",data:= .seq ([]:List Value).toArray}).push (iB .none (.bool false) .none .none d 0 es.size ep)).get? b=some ob:=fun b ob e=>ag _ (ag _ e)
 generalize hI0:(s.heap.push {cls:= .type "list",data:= .seq ([]:List Value).toArray}).objs.size=I0 at hne hId hI2 szl ⊢
 generalize hH0:(s.heap.push {cls:= .type "list",data:= .seq ([]:List Value).toArray}).push (iB .none (.bool false) .none .none d 0 es.size ep)=H0 at hL2 hI2 hk2 x2 ⊢
 have fin: ∀(h':Heap) (c:Nat),bR s.heap.objs.size H0 h'->h'.get? s.heap.objs.size=some {cls:= .type "list",dict:=none,data:= .seq #[] c,slots:= #[]}->
   fK (model prog w) A (.builtin "list.extend.loop" ⟨[.ref s.heap.objs.size, .ref I0, .ref s.heap.objs.size], []⟩) (fun r s'=>match r with
       | vI (Flow.ret v)=>
        wpAny (model prog w) A
         (match v with
         | ak a=>do
          let __do_lift<-load a
          match __do_lift.data with
           | yz xs epoch=>pure xs.toList
           | x=>jk "internal:collect"
         | x=>jk "internal:collect")
         Q E s'
       | vI a=>False
       | Except.error e=>E e s') {s with heap:=h'}:=fun h' c sb hl=>by
  refine yj (s0:=s) (L:=s.heap.objs.size) (by simpa using hh) mw hne hId (bY hltd) (m0:=s.heap.objs.size) es.size 0 h' [] c (jy (av hl)) (fun b hb=>by cases hb) (by omega) (bN _) ⟨_,_,_,_, .inl rfl,(sb.2 I0 hne.symm).trans hI2⟩ (x2.at fun o e=>(sb.2 d (aJ hltd)).trans e) hl rfl (fun j b e=>by cases e) (fun b ob h1 h2 e=>(sb.2 b h1).trans (hk2 b ob e)) (fun h2 bs c' q0 q1 q2 q3 q4=> ?_)
  dsimp only
  refine aa (wpAny_load q1 ?_)
  refine af ?_
  show Q (bs.map ak) _
  refine hQ h2 bs (av q1) (fun b ob e=> ?_) q2 q0 q3
  have hb:=av e
  exact q4 b ob (aJ hb) (by rw [szl]; exact aJ (cH hb)) e
 refine eD (fun _=> ?_) fun _=> ?_
 ·refine aa (fw ?_)
  unfold BK
  refine aa (aa (fW hL2 rfl ?_ (by show 0<=_; omega) (by show 1<=_; rw [eA]; omega)))
  have hL3:=eE hL2 fun x=>x.push aR
  refine fW hL3 rfl ?_ (by show 1<=_; rw [eA]; omega) (by show 0<=_; omega)
  have hL4:=eE hL3 fun x=>x.pop
  exact af ⟨dW cL _,fin _ _ ((bB ..).trans (bB ..)) hL4⟩
 ·exact af ⟨dW cL _,fin _ _ (dZ _ _) hL2⟩
end
section
variable {prog:aq}{w:World}{A:bA}{E:Value->ai->Prop}{s:ai}{d v:Addr}{es:Array eL}{ep:Nat}
theorem y4{pr:List (Value×ic)}{m:Nat}{Q:Value->ai->Prop}(hh:A.handled=none)(hu:A.units+8 < cLine)(hd:(d==jd)=false)(x:mC s.heap d es ep)(mw:es.size<=sizeLine)(he:es.toList.map (·.key)=pr.map (·.1))(y: ∀q∈pr, ∃b,q.1=ak b/\T2 prog w s.heap q.2 b)(hm: ∀q∈pr,q.2.length=m)(m0:0 < m)(nk:(pr.map (·.2)).Nodup)
  (h: ∀(h':Heap) (tk D:Nat) (out:List Value) (c:Nat),s.heap.objs.size<=D->rA nu pr out->h'.get? D=some (cf "list" out.toArray c)->(∀b ob,s.heap.get? b=some ob->h'.get? b=some ob)->Q (.ref D) {s with heap:=h',toks:=tk}):
  wpAny (model prog w) A (call (.builtin "sorted") [.ref d]) Q E s:=by
 refine yK kind_sorted plain_sorted entry_sorted (args_sorted1 _) ?_
 unfold dF.«sorted»
 refine aa (m:=checkCount "sorted" 1 1 _) (af ?_)
 refine aa (yT (by simpa using hh) hd x mw fun h1 tk hsz hk=> ?_)
 rw [he]
 have lp:pr.length=es.size:=by rw [<-aj, <-ae (f:=fun e:eL=>e.key),he,ae]
 refine aa (rg ?_ (by rw [ae,lp]; exact mw))
 have hoL:(h1.push (cf "list" (pr.map (·.1)).toArray 0)).get? h1.objs.size=some (cf "list" (pr.map (·.1)).toArray 0):=az _ rfl
 have hk2: ∀b ob,s.heap.get? b=some ob->(h1.push (cf "list" (pr.map (·.1)).toArray 0)).get? b=some ob:=fun b ob e=>ag _ (hk b ob e)
 have ltb: ∀b ob,s.heap.get? b=some ob->b≠h1.objs.size:=fun b ob e=>aJ (N6 (av e) hsz)
 show wpAny _ _ _ _ _ {s with heap:=h1.push (cf "list" (pr.map (·.1)).toArray 0),toks:=tk}
 refine aa (bM (bS slot_list_sort ⟨_,hoL,rfl⟩ Lg ?body (args_list_sort _)))
 case body=>
  refine JI (s:={s with heap:=h1.push (cf "list" (pr.map (·.1)).toArray 0),toks:=tk}) (pr:=pr) (m:=m) (by simp only [j6]; omega) hoL (by rw [lp]; exact mw) (fun q hq=> ?_) hm m0 nk fun h' out c hp2 hg2 hk3=> ?_
  ·obtain⟨b,e,t⟩:=y q hq
   exact⟨b,e,t.keep fun c o _ z=>hk2 c o z⟩
  ·exact⟨_,rfl,af ⟨_,rfl,h h' tk h1.objs.size out c (jy hsz) hp2 hg2 fun b ob e=>hk3 b ob (ltb b ob e) (hk2 b ob e)⟩⟩
theorem Kr{h:Heap}{a b:Addr}{rs:ic}{n:Int}{t:Tok}{e:eL}(ha:h.get? a=some (fZ e))(hk:e.key= .ref b)(hv:e.val= .int n t)(x:T2 prog w h rs b):T3 prog w h (rs,n) a:=by
 refine⟨_,0,b,t,ha,rfl, ?_,x⟩
 show yz #[e.key,e.val] 0=_
 rw [hk,hv]
theorem yc{ks:List (ic×Int)}{Q:Value->ai->Prop}(hh:A.handled=none)(hu:A.units+8 < cLine)(hv:s.heap.get? v=some (yM d))(x:mC s.heap d es ep)(mw:es.size<=sizeLine)(hl:ks.length=es.size)(y: ∀j (hj:j < es.size), ∃b t,es[j].key=ak b/\es[j].val= .int (ks[j]'(by omega)).2 t/\T2 prog w s.heap (ks[j]'(by omega)).1 b)(nk:ks.Nodup)
  (h: ∀(h':Heap) (D:Nat) (bs:List Addr) (out:List Value) (c:Nat),s.heap.objs.size<=D->bs.length=ks.length->(∀b∈bs,s.heap.objs.size<=b)->(∀j b,bs[j]? =some b-> ∃hj:j < es.size,h'.get? b=some (fZ es[j]))->rA rm ((bs.map ak).zip ks) out->h'.get? D=some (cf "list" out.toArray c)->(∀b ob,s.heap.get? b=some ob->h'.get? b=some ob)->Q (.ref D) {s with heap:=h'}):
  wpAny (model prog w) A (call (.builtin "sorted") [.ref v]) Q E s:=by
 refine yK kind_sorted plain_sorted entry_sorted (args_sorted1 _) ?_
 unfold dF.«sorted»
 refine aa (m:=checkCount "sorted" 1 1 _) (af ?_)
 refine aa (vS (by simpa using hh) hv x mw fun h1 bs hsz hk hbl hnew hb=> ?_)
 refine aa (rg ?_ (by rw [ae,hbl]; exact mw))
 have hoL:(h1.push (cf "list" (bs.map ak).toArray 0)).get? h1.objs.size=some (cf "list" (bs.map ak).toArray 0):=az _ rfl
 have hk2: ∀b ob,h1.get? b=some ob->(h1.push (cf "list" (bs.map ak).toArray 0)).get? b=some ob:=fun b ob e=>ag _ e
 have ltb: ∀b ob,h1.get? b=some ob->b≠h1.objs.size:=fun b ob e=>aJ (av e)
 have e1:((bs.map ak).zip ks).map (·.1)=bs.map ak:=List.map_fst_zip (by rw [ae]; omega)
 have e2:((bs.map ak).zip ks).map (·.2)=ks:=j8 (by rw [ae]; omega)
 show wpAny _ _ _ _ _ {s with heap:=h1.push (cf "list" (bs.map ak).toArray 0)}
 refine aa (bM (bS slot_list_sort ⟨_,hoL,rfl⟩ Lg ?body (args_list_sort _)))
 case body=>
  refine Jz (s:={s with heap:=h1.push (cf "list" (bs.map ak).toArray 0)}) (pr:=(bs.map ak).zip ks) (by simp only [j6]; omega) (by rw [e1]; exact hoL) (by rw [cy,ae]; omega) (fun q hq=> ?_) (by rw [e2]; exact nk) fun h' out c hp2 hg2 hk3=> ?_
  ·obtain⟨j,hj,rfl⟩:=aW.mp hq
   rw [cy,ae]at hj
   have hj1:j < bs.length:=by omega
   have hj2:j < es.size:=by omega
   obtain⟨_,hp⟩:=hb j bs[j] (ah hj1)
   obtain⟨b,t,y1,y2,y3⟩:=y j hj2
   rw [gC]
   refine⟨bs[j],by rw [bp], ?_⟩
   exact Kr (hk2 _ _ hp) y1 y2 (y3.keep fun c o _ z=>hk2 _ _ (hk c o z))
  ·refine⟨_,rfl,af ⟨_,rfl,h h' h1.objs.size bs out c (jy hsz) (by omega) hnew (fun j b e=> ?_) hp2 hg2 fun b ob e=>hk3 b ob (ltb b ob (hk b ob e)) (hk2 b ob (hk b ob e))⟩⟩
   obtain⟨hj,q⟩:=hb j b e
   exact⟨hj,hk3 b _ (ltb b _ q) (hk2 b _ q)⟩
end
section
variable {prog:aq}{w:World}{K:Type} [DecidableEq K]{knd:HeapKind prog w K}{A:bA}{E:Value->ai->Prop}{s:ai}{env:Env}
theorem FK{k v:Expr}{pos:Pos}{Q:Value->ai->Prop}(hu:knd.room A)
  (h:wpAny (model prog w) A (eval k env) (fun kv s1=>wpAny (model prog w) A (eval v env) (fun vv s2=> ∃a r,kv= .ref a/\knd.is s2.heap r a/\s2.heap.DictOfH knd s.heap.objs.size []/\
   ∀h',h'.DictOfH knd s.heap.objs.size [(r,a,vv)]->bR s.heap.objs.size s2.heap h'->Q (.ref s.heap.objs.size) {s2 with heap:=h',toks:=s2.toks+knd.draws r}) E s1) E {s with heap:=s.heap.push {cls:= .type "dict",data:= .dict #[]}}):
  wpAny (model prog w) A (eval (.Dict [some k] [v] pos) env) Q E s:=by
 rw [arm_eval_Dict,zip_pairTrees [some k] [v] env pos rfl rfl,dictDisplay_pairs _ (by simp [pairTrees]) (by simp [pairTrees])]
 refine aa (rd (aa ?_))
 unfold subDict
 refine aa (wpAny_alloc ?_)
 refine aa (bM ?_)
 rw [if_pos (by simp [pairTrees])]
 refine aa (pairTrees_cons_walk (bW h (fun kv s1 h1=>bW h1 (fun vv s2 h2=>pairTrees_nil_walk ?_) fun _ _ e=>e) fun _ _ e=>e))
 obtain⟨a,r,rfl,hk,hm,hQ⟩:=h2
 refine bM ?_
 rw [dg]
 refine aa (aa (aa (wpAny_dictSet_heap (hsz:=by show 0<=_; omega) hu hk hm fun h' hm' hs'=>af ?_)))
 dsimp only
 rw [gA]
 refine af (af (af (af ?_)))
 exact hQ h' hm' hs'
end
end Z
namespace Z
open PySem PySem.Spec PyProof.Rows L2
def AW(r:List Int):D:= .tup (r.map .int)
def mY(rs:ic):D:= .tup (rs.map AW)
abbrev pJ:=List (ic×Int)
def rC(kv:pJ):D:= .dct (kv.map fun x=>mY x.1) (kv.map (·.2))
theorem wJ: ∀r:List Int,jq (r.map .int)=r.map hashInt
 | []=>rfl
 | x::r=>by rw [bx,bx, <-wJ r]; rfl
theorem Gj(P:aq)(w:World)(r:List Int):qK (AW r)=(lB (fX P w)).hash r:=by
 show yA (fH (jq (r.map .int)))=_
 rw [wJ]
 rfl
theorem wx(P:aq)(w:World): ∀rs:ic,jq (rs.map AW)=rs.map (lB (fX P w)).hash
 | []=>rfl
 | x::r=>by
  rw [bx,bx, <-wx P w r, <-Gj P w x]
  rfl
theorem xR(P:aq)(w:World)(rs:ic):qK (mY rs)=wy P w rs:=by
 show yA (fH (jq (rs.map AW)))=_
 rw [wx P w]
 rfl
section
variable {X:Cx}{pins:List (Addr×Obj)}{σ:St}{H:Hp}{s:ai}{M:MP}
theorem zd: ∀{r:List Int} {us:List Value},Vals (r.map V.int) us->lZ (fX X.prog X.w) r us
 | [],_,h=>by rw [sT]at h; cases h; exact .nil
 | x::r,_,h=>by
  rw [bx]at h
  cases h with
  | cons a t=>
   obtain⟨tk,rfl⟩:=(show ∃t,_=gW x t from a)
   exact .cons (by show Value.isInt x (.int x tk)=true; simp [Value.isInt]) (zd t)
theorem M8(I:Inv X pins σ H s){r:List Int}{v:V}{u:Value}(h:Dn X.K M H (AW r) v)(rv:RelV v u): ∃b,u= .ref b/\T1 X.prog X.w s.heap r b:=by
 obtain⟨a,xs,rfl,sq,dn⟩:=h
 cases (show u=ak a from rv)
 obtain⟨its,rr,⟨o,e1,e2,m,e3⟩,_⟩:=I.tuple sq
 rw [cN.ints dn]at rr
 exact⟨a,rfl,o,its.toArray,m,e1,e2,e3,by simpa using zd rr⟩
theorem FF(I:Inv X pins σ H s): ∀{rs:ic} {vs:List V} {us:List Value},cN X.K M H (rs.map AW) vs->Vals vs us->sI X.prog X.w s.heap rs us
 | [],vs,us,h,r=>by cases (show vs= []from h); cases r; exact .nil
 | x::rs,vs,us,h,r=>by
  obtain⟨v,t,rfl,h1,h2⟩:=h
  cases r with
  | cons r1 r2=>
   obtain⟨b,rfl,t1⟩:=M8 I h1 r1
   exact .cons t1 (FF I h2 r2)
theorem uy(I:Inv X pins σ H s){rs:ic}{v:V}{u:Value}(h:Dn X.K M H (mY rs) v)(rv:RelV v u): ∃b,u= .ref b/\v= .ref b/\T2 X.prog X.w s.heap rs b:=by
 obtain⟨a,xs,rfl,sq,dn⟩:=h
 cases (show u=ak a from rv)
 obtain⟨its,rr,⟨o,e1,e2,m,e3⟩,_⟩:=I.tuple sq
 exact⟨a,rfl,rfl,o,its.toArray,m,e1,e2,e3,by simpa using FF I dn rr⟩
theorem tN: ∀{kv:pJ} {bs:List Addr} {es:List eL},bs.length=kv.length->o6 (qJ (kv.map fun x=>mY x.1) bs (kv.map (·.2))) es-> ∃xs:List (ic×Addr×Value),es=xs.map (yt (pH X.prog X.w))/\xs.length=kv.length/\ ∀j (hj:j < kv.length) (hx:j < xs.length) (hb:j < bs.length), ∃t,xs[j]=(kv[j].1,bs[j], .int kv[j].2 t)
 | [],bs,es,hb,h=>by
  cases es with
  | nil=>exact⟨[],rfl,rfl,fun j hj=>absurd hj (by simp)⟩
  | cons e es=>cases bs <;> exact h.elim
 | x::kv, [],es,hb,h=>by simp at hb
 | x::kv,b::bs,es,hb,h=>by
  cases es with
  | nil=>exact h.elim
  | cons e es=>
   obtain⟨⟨t,e1⟩,h2⟩:=h
   obtain⟨xs,a1,a2,a3⟩:=tN (kv:=kv) (bs:=bs) (es:=es) (by simpa using hb) h2
   refine⟨(x.1,b, .int x.2 t)::xs, ?_,by rw [aL,a2]; rfl,fun j hj hx hbj=> ?_⟩
   ·rw [bx,a1,e1]
    show(⟨qK (mY x.1), .ref b, .int x.2 t⟩:eL)::_=_
    rw [xR X.prog X.w]
    rfl
   ·cases j with
    | zero=>exact⟨t,rfl⟩
    | succ j=>exact a3 j (by simpa using hj) (by simpa using hx) (by simpa using hbj)
theorem cN.refs{ks:List D}{bs:List Addr}{K:Frag}(h:cN K M H ks (bs.map V.ref)){j:Nat}{k:D}{b:Addr}(h1:ks[j]? =some k)(h2:bs[j]? =some b):Dn K M H k (.ref b):=by
 obtain⟨v,e,d⟩:=h.get h1
 rw [aA,h2]at e
 cases e
 exact d
structure zm(X:Cx)(s:ai)(kv:pJ)(a:Addr)(xs:List (ic×Addr×Value)):Prop where
 no:(a==jd)=false
 d:s.heap.DictOfH (pH X.prog X.w) a xs
 len:xs.length=kv.length
 it: ∀j (hj:j < kv.length) (hx:j < xs.length), ∃b t,xs[j]=(kv[j].1,b, .int kv[j].2 t)
theorem K1(I:Inv X pins σ H s){kv:pJ}{a:Addr}{bs:List Addr}(nd:(kv.map (·.1)).Nodup)(h:H a=some (kQ a (qJ (kv.map fun x=>mY x.1) bs (kv.map (·.2)))))(hb:bs.length=kv.length)(dn:cN X.K M H (kv.map fun x=>mY x.1) (bs.map V.ref)): ∃xs,zm X s kv a xs:=by
 obtain⟨⟨no,o,es,ep,h1,h2,h3,h4⟩,_⟩:=(show fR X.prog X.w H s.heap a (kQ a _)from I.eI a _ h)
 obtain⟨xs,a1,a2,a3⟩:=tN (X:=X) hb h4
 have ks:xs.map (·.1)=kv.map (·.1):=by
  apply List.ext_getElem (by rw [ae,ae,a2])
  intro j hj1 hj2
  rw [ae]at hj1 hj2
  obtain⟨t,e⟩:=a3 j hj2 hj1 (by omega)
  rw [bp,bp,e]
 refine⟨xs,no,⟨o,es,ep,h1,h2,h3,a1,fun x hx=> ?_,by rw [ks]; exact nd⟩,a2,fun j hj hx=> ?_⟩
 ·obtain⟨j,hj,rfl⟩:=aW.mp hx
  have hj2:j < kv.length:=by omega
  obtain⟨t,e⟩:=a3 j hj2 hj (by omega)
  rw [e]
  have d:=dn.refs (j:=j) (k:=mY kv[j].1) (b:=bs[j]'(by omega)) (by rw [aA,ah hj2]; rfl) (ah _)
  obtain⟨b,e2,_,t2⟩:=uy I d (u:= .ref (bs[j]'(by omega))) rfl
  cases e2
  exact t2
 ·obtain⟨t,e⟩:=a3 j hj hx (by omega)
  exact⟨_,t,e⟩
theorem zm.look{kv:pJ}{a:Addr}{xs:List (ic×Addr×Value)}(x:zm X s kv a xs){k:ic}{n:Int}(h:(k,n)∈kv): ∃b t,atKey xs k=some (b, .int n t):=by
 obtain⟨j,hj,e⟩:=aW.mp h
 have hl:=x.len
 obtain⟨b,t,e2⟩:=x.it j hj (by omega)
 obtain⟨o,es,ep,_,_,_,_,_,nd⟩:=x.d
 refine⟨b,t,atKey_of_get nd (i:=j) ?_⟩
 rw [ah (by omega),e2,e]
theorem zm.miss{kv:pJ}{a:Addr}{xs:List (ic×Addr×Value)}(x:zm X s kv a xs){k:ic}(h:k∉kv.map (·.1)):atKey xs k=none:=by
 refine atKey_none_of_get fun j p e=>h ?_
 obtain⟨hj,e⟩:=aI.mp e
 have hl:=x.len
 obtain⟨b,t,e2⟩:=x.it j (by omega) hj
 rw [e]at e2
 cases e2
 exact bh.mpr ⟨_,a_ (by omega:j < kv.length),rfl⟩
theorem zm.has{kv:pJ}{a:Addr}{xs:List (ic×Addr×Value)}(x:zm X s kv a xs)(k:ic):(atKey xs k).isSome=decide (k∈kv.map (·.1)):=by
 by_cases h:k∈kv.map (·.1)
 ·obtain⟨⟨k',n⟩,hm,rfl⟩:=bh.mp h
  obtain⟨b,t,e⟩:=x.look hm
  rw [e,decide_eq_true h]
  rfl
 ·rw [x.miss h,decide_eq_false h]
  rfl
end
section
variable {X:Cx}{ρ:fm}{a b e:Expr}{pos p:Pos}{kv:pJ}{k:ic}{n:Int}
def Od(K:Frag)(kv:pJ):V->Hp->Prop:=fun x H=> ∃M,Dn K M H (rC kv) x
theorem Od.at{pins:List (Addr×Obj)}{σ:St}{H:Hp}{s:ai}{x:V}{u:Value}(nd:(kv.map (·.1)).Nodup)(I:Inv X pins σ H s)(h:Od X.K kv x H)(r:RelV x u): ∃a xs,u= .ref a/\zm X s kv a xs:=by
 obtain⟨M,a,bs,rfl,h1,h2,h3,h4⟩:=h
 cases (show u=ak a from r)
 rw [ae]at h2
 obtain⟨xs,q⟩:=K1 I nd h1 h2 h4
 exact⟨a,xs,rfl,q⟩
theorem MH(hu:X.A.units+8 < cLine)(nd:(kv.map (·.1)).Nodup)(hm:(k,n)∈kv):Oi X (fun x y H Q=>Od X.K kv x H/\(∃M,Dn X.K M H (mY k) y)/\Q (.int n) H):=by
 intro value slice pins s σ H x y v u Q I rx ry ⟨h1,⟨M,h2⟩,q⟩ hs
 obtain⟨a,xs,rfl,dc⟩:=h1.at nd I rx
 obtain⟨b,rfl,_,t2⟩:=uy I h2 ry
 obtain⟨c,t,e⟩:=dc.look hm
 exact BF (x:= .int n t) dc.d.typeIs slot_dict_getitem.lookup (wpAny_getItem_heap (knd:=pH X.prog X.w) (Q:=fun r s'=>r= .int n t/\EP X pins σ Q r s') (by show X.A.in1.units+2 < cLine; rw [j6]; omega) t2 dc.d e ⟨rfl, .int n,H,I.tok _,⟨t,rfl⟩,q⟩) hs
theorem aw.dget(hu:X.A.units+8 < cLine)(nd:(kv.map (·.1)).Nodup)(hm:(k,n)∈kv)(ha:aw X ρ a (rC kv))(hb:aw X ρ b (mY k))(hs:qR b:=by intro _ _; rfl):aw X ρ (.Subscript a b pos) (.int n):=
 fun M0 H0 γ α σ H Q R kk=>(Fo (MH hu nd hm) iu iu hs).to (ha M0 H0 γ α σ H _ R fun v H1 s1 d1=>hb M0 H0 γ α σ H1 _ (R.next s1) fun u H2 s2 d2=>⟨⟨_,d1.same s2⟩,⟨_,d2⟩,kk _ H2 (s1.trans s2) rfl⟩)
theorem AV(hu:X.A.units+8 < cLine)(nd:(kv.map (·.1)).Nodup):pA X (cP .NotIn) (fun x y H Q=>(∃M,Dn X.K M H (mY k) x)/\Od X.K kv y H/\Q (.bl (!decide (k∈kv.map (·.1)))) H):=by
 intro pins s σ H x y v u Q I rx ry ⟨⟨M,h1⟩,h2,q⟩
 obtain⟨a,xs,rfl,dc⟩:=h2.at nd I ry
 obtain⟨b,rfl,_,t2⟩:=uy I h1 rx
 refine wpAny_notIn_heap (knd:=pH X.prog X.w) (by show X.A.in1.units+2 < cLine; rw [j6]; omega) t2 dc.no dc.d ?_
 rw [dc.has]
 exact⟨.bl _,H,I.tok _,rfl,q⟩
theorem cU.notInDc(hu:X.A.units+8 < cLine)(nd:(kv.map (·.1)).Nodup)(ha:aw X ρ a (mY k))(hb:aw X ρ b (rC kv))(hm:fU .NotIn b=false:=by rfl):cU X ρ (.Compare a [.NotIn] [b] pos) (!decide (k∈kv.map (·.1))):=
 fun M0 H0 γ α σ H Q R kk=>(BO (AV hu nd) iu iu hm).to (ha M0 H0 γ α σ H _ R fun v H1 s1 d1=>hb M0 H0 γ α σ H1 _ (R.next s1) fun u H2 s2 d2=>⟨⟨_,d1.same s2⟩,⟨_,d2⟩,_,rfl,kk H2 (s1.trans s2)⟩)
end
section
variable {α:Type}{lt:α->α->Bool}
def DE(lt:α->α->Bool)(x:α):List α->List α
 | []=> [x]
 | y::l=>if lt x y then x::y::l else y::DE lt x l
def uM(lt:α->α->Bool)(l:List α):List α:=l.foldr (DE lt) []
theorem rO(x:α): ∀l:List α,(DE lt x l).Perm (x::l)
 | []=>dB _
 | y::l=>by
  unfold DE
  split
  ·exact dB _
  ·exact((rO x l).cons y).trans (List.Perm.swap _ _ _)
theorem rk: ∀l:List α,(uM lt l).Perm l
 | []=>dB _
 | x::l=>(rO x _).trans ((rk l).cons x)
theorem Cq(o:p_ lt)(x:α): ∀l:List α,x∉l->l.Pairwise (fun a b=>lt a b=true)->(DE lt x l).Pairwise (fun a b=>lt a b=true)
 | [],_,_=>n8 _ _
 | y::l,hx,h=>by
  have h':=cu.mp h
  unfold DE
  split
  ·rename_i e
   refine cu.mpr ⟨fun z hz=> ?_,h⟩
   rcases aO.mp hz with rfl | hz
   ·exact e
   ·exact o.tr _ _ _ e (h'.1 z hz)
  ·rename_i e
   have e:lt x y=false:=by simpa using e
   refine cu.mpr ⟨fun z hz=> ?_,Cq o x l (fun z=>hx (.tail _ z)) h'.2⟩
   rcases aO.mp ((rO x l).mem_iff.mp hz)with rfl | hz
   ·exact o.wd _ _ (fun q=>hx (q▸ .head _)) e
   ·exact h'.1 z hz
theorem BP(o:p_ lt): ∀l:List α,l.Nodup->(uM lt l).Pairwise (fun a b=>lt a b=true)
 | [],_=>eU
 | x::l,h=>Cq o x _ (fun z=>(eZ.mp h).1 ((rk l).mem_iff.mp z)) (BP o l (eZ.mp h).2)
theorem zA(o:p_ lt): ∀{a b:List α},a.Pairwise (fun a b=>lt a b=true)->b.Pairwise (fun a b=>lt a b=true)->a.Perm b->a=b
 | [],b,_,_,h=>(List.perm_nil.mp h.symm).symm
 | x::a, [],_,_,h=>by cases List.perm_nil.mp h
 | x::a,y::b,ha,hb,h=>by
  have ha':=cu.mp ha
  have hb':=cu.mp hb
  have e:x=y:=by
   rcases aO.mp (h.mem_iff.mp (.head _))with e | e
   ·exact e
   ·rcases aO.mp (h.symm.mem_iff.mp (.head _))with q | q
    ·exact q.symm
    ·have h1:=hb'.1 x e
     have h2:=ha'.1 y q
     rw [o.Hz _ _ h1]at h2
     cases h2
  subst e
  rw [zA o ha'.2 hb'.2 h.cons_inv]
theorem wz(o:p_ lt){a l:List α}(ha:a.Pairwise (fun a b=>lt a b=true))(h:a.Perm l)(nd:l.Nodup):a=uM lt l:=zA o ha (BP o l nd) (h.trans (rk l).symm)
end
section
variable {X:Cx}{pins:List (Addr×Obj)}{σ:St}{H H':Hp}{s:ai}{h':Heap}
theorem Fw{t':Nat}(I:Inv X pins σ H s)(k: ∀b u,s.heap.get? b=some u->h'.get? b=some u)(old: ∀b,b < s.heap.objs.size->H' b=H b)(new: ∀b u,s.heap.objs.size<=b->H' b=some u->fR X.prog X.w H' h' b u):Inv X pins σ H' {s with heap:=h',toks:=t'}:=by
 have up: ∀b u,H b=some u->H' b=some u:=fun b u e=>by rw [old b (I.eI.lt e)]; exact e
 refine I.un ⟨fun b u q _ _ _=>k b u q,fun b u q _ _ _=>⟨u.slots,k b u q⟩,fun b u q n _=>by rw [old b (av q)]; exact n,fun b u q _=>⟨u,k b u q⟩,fun b xs q=>up b _ q,fun b u xs q=>up b _ q,fun b ps q=>⟨#[],by rw [up b _ q]; simp⟩⟩ fun b u e=> ?_
 by_cases hb:b < s.heap.objs.size
 ·rw [old b hb]at e
  exact(I.eI b u e).stay (fun c v _ q=>k c v q) (fun c q=>up c _ q) fun c xs q=>up c _ q
 ·exact new b u (vF hb) e
end
section
variable {X:Cx}{ρ:fm}{e:Expr}{pos p p2 p3:Pos}{kv:pJ}{m:Nat}
theorem z9{bs:List Addr}(hb:bs.length=kv.length):(bs.zip (kv.map (·.1))).map (·.2)=kv.map (·.1):=j8 (by rw [ae]; omega)
theorem cN.mapZ{K:Frag}{M:MP}{H:Hp}{β:Type}{f:β->D}{g:β->V}: ∀{l:List β},(∀x∈l,Dn K M H (f x) (g x))->cN K M H (l.map f) (l.map g)
 | [],_=>rfl
 | x::l,h=>⟨g x,_,rfl,h x (.head _),cN.mapZ fun y hy=>h y (.tail _ hy)⟩
theorem Ht{β:Type}{g:β->V}{g':β->Value}: ∀{l:List β},(∀x∈l,RelV (g x) (g' x))->Vals (l.map g) (l.map g')
 | [],_=> .nil
 | x::l,h=> .cons (h x (.head _)) (Ht fun y hy=>h y (.tail _ hy))
theorem vW(hh:X.A.handled=none)(hu:X.A.units+8 < cLine)(nd:(kv.map (·.1)).Nodup)(hm: ∀x∈kv,x.1.length=m)(m0:0 < m)(mw:kv.length<=sizeLine):g7 X (.builtin "sorted") (fun xs H Q=> ∃q M,xs= [.ref q]/\Dn X.K M H (rC kv) (.ref q)/\ ∀l ys,H l=none->cN X.K M H ((uM nu (kv.map (·.1))).map mY) ys->Q (.ref l) (upd H l (.lst ys))):=by
 intro pins s σ H xs us Q I r ⟨q,M,e,dn,k⟩
 subst e
 obtain⟨u,rfl,rx⟩:=vals1 r
 cases rx
 obtain⟨a,bs,ea,h1,h2,h3,h4⟩:=dn
 cases ea
 rw [ae]at h2
 obtain⟨⟨no,o,es,ep,g1,g2,g3,g4⟩,_⟩:=(show fR X.prog X.w H s.heap q (kQ q _)from I.eI q _ h1)
 obtain⟨zs,a1,a2,a3⟩:=tN (X:=X) h2 g4
 have t2: ∀x∈bs.zip (kv.map (·.1)),Dn X.K M H (mY x.2) (.ref x.1):=fun x hx=>by
  obtain⟨j,hj,rfl⟩:=aW.mp hx
  rw [cy,ae]at hj
  rw [gC,bp]
  exact h4.refs (j:=j) (by rw [aA,ah (by omega)]; rfl) (ah _)
 have hes:es.size=kv.length:=by rw [<-aj,a1,ae,a2]
 refine y4 (pr:=(bs.zip (kv.map (·.1))).map fun x=>(ak x.1,x.2)) (m:=m) hh hu no ⟨o,g1,g2,g3⟩ (by rw [hes]; exact mw) ?_ (fun x hx=> ?_) (fun x hx=> ?_) m0 ?_ fun h' tk D out c hD so hg hk=> ?_
 ·rw [a1,dI,dI]
  apply List.ext_getElem (by rw [ae,ae,cy,ae]; omega)
  intro j hj1 hj2
  rw [ae]at hj1
  obtain⟨t,e⟩:=a3 j (by omega) hj1 (by omega)
  rw [bp,bp,gC]
  show(yt (pH X.prog X.w) zs[j]).key=_
  rw [e]
  rfl
 ·obtain⟨y,hy,rfl⟩:=bh.mp hx
  obtain⟨b,e,_,t⟩:=uy I (t2 y hy) (u:= .ref y.1) rfl
  cases e
  exact⟨_,rfl,t⟩
 ·obtain⟨y,hy,rfl⟩:=bh.mp hx
  have:y.2∈kv.map (·.1):=(pb hy).2
  obtain⟨z,hz,e⟩:=bh.mp this
  show y.2.length=m
  rw [<-e]
  exact hm z hz
 ·rw [dI]
  have:((fun x:Value×ic=>x.2) ∘ fun x:Addr×ic=>(ak x.1,x.2))=fun x:Addr×ic=>x.2:=rfl
  rw [this,z9 h2]
  exact nd
 ·obtain⟨qs,p1,p2',p3'⟩:=so
  obtain⟨l,l1,l2⟩:=oW p1
  subst l2
  have ksrt:l.map (·.2)=uM nu (kv.map (·.1)):=by
   refine wz DV ?_ ?_ nd
   ·rw [hV]at p3' ⊢
    exact p3'
   ·have:=l1.map (fun x:Addr×ic=>x.2)
    rw [z9 h2]at this
    exact this
  rw [dI]at p2'
  have len:l.length<=sizeLine:=by rw [l1.length_eq,cy,ae]; omega
  refine⟨.ref D,_,I.laid (t':=tk) (fun b o e=>hk b o e) hD (o:= .lst (l.map fun x=>V.ref x.1)) ⟨by rw [ae]; exact len,out,c, ?_,hg⟩,rfl,k D _ (I.eI.fresh hD) ?_⟩
  ·rw [<-p2']
   exact Ht fun x _=>rfl
  ·rw [<-ksrt,dI]
   exact cN.mapZ fun x hx=>t2 x (l1.mem_iff.mp hx)
theorem eJ.sortedDc(hh:X.A.handled=none)(hu:X.A.units+8 < cLine)(nd:(kv.map (·.1)).Nodup)(hml: ∀x∈kv,x.1.length=m)(m0:0 < m)(mw:kv.length<=sizeLine)(hg:Gl X "sorted")(hm:X.mg "sorted"=none)(h:aw X ρ e (rC kv))(he:au [e] X.env= [(false,eval e X.env)]:=by rfl):eJ X ρ (.Call (.Name "sorted" p) [e] [] pos) ((uM nu (kv.map (·.1))).map mY):=fun M0 H0 γ α σ H Q R k=>
 (iy (vW hh hu nd hml m0 mw) hg hm (by decide +kernel) (eu iu gZ he) (by decide) (by decide) he).to (h M0 H0 γ α σ H _ R fun v H1 s1 d1=>by
  have d1':=d1
  obtain⟨a,bs,rfl,_⟩:=d1
  refine⟨a,_,rfl,d1',fun l ys hl dn=>k l ys H1 _ s1 hl (bG hl) bO ?_⟩
  exact(dn.re fun b z=>z.elim .inl fun w=> .inr (by rw [w]; exact hl)).same (bG hl))
def Oc(v d:Addr):HO:= .ext fun h=>h.get? v=some (yM d)
theorem HS{o:Expr}{to:TE}(ho:PE X o to)(hbase:j9 o "items" X.env (eval o X.env)=eval o X.env:=by rfl)(hline:(p2.endLine==p3.line)=true:=by rfl):
  PE X (.Call (.Attribute o "items" p2) [] [] p3) (fun σ H Q=>to σ H fun x H1=> ∃d xs,x= .ref d/\H1 d=some (kQ d xs)/\ ∀v,H1 v=none->Q (.ref v) (upd H1 v (Oc v d))):=by
 intro pins s σ H Q I h
 refine wpAny_Call_method0_late hbase hline (fg (ho pins s σ H _ I h) fun v s1 ⟨x,H1,I1,r1,d,xs,ex,hd,q⟩=> ?_)
 subst ex
 obtain rfl:v=ak d:=r1
 obtain⟨⟨no,ob,es,ep,g1,g2,g3,g4⟩,_⟩:=(show fR X.prog X.w H1 s1.heap d (kQ d _)from I1.eI d _ hd)
 refine⟨"dict","dict.items",PySem.F.plainAttrs_dict,PySem.F.slot_dict_items,PySem.F.type_dict_items,⟨ob,g1,g2.1⟩,fun b q=>by cases q; exact⟨ob,g1,g2.2.1⟩,Calls.callWith_builtin rfl (PySem.evalArgs_none ?_)⟩
 refine call_meetsIn PySem.F.slot_dict_items ⟨ob,g1,g2.1⟩ PySem.F.entry_dict_items (PySem.F.args_dict_items_1 _) (DD (es:=es) (ep:=ep) no) ⟨⟨ob,g1,g2,g3⟩, ?_⟩
 refine⟨.ref s1.heap.objs.size,_,I1.laid (t':=s1.toks) (fun _ _ q=>ag _ q) (ay _) (o:=Oc s1.heap.objs.size d) ⟨az _ rfl,⟨_,az _ rfl⟩,fun h1 h2 e k=>k _ e⟩,rfl,q _ (I1.eI.fresh (ay _))⟩
def N_(x:ic×Int):D:= .tup [mY x.1, .int x.2]
theorem GI(n:Nat)(r:List Int):D.bare (n+1) (AW r):=fun d hd=>by
 obtain⟨i,_,rfl⟩:=bh.mp hd
 cases n <;> exact c_
theorem ll(n:Nat)(rs:ic):D.bare (n+2) (mY rs):=fun d hd=>by
 obtain⟨r,_,rfl⟩:=bh.mp hd
 exact GI n r
theorem Jr(n:Nat)(x:ic×Int):D.bare (n+3+1) (N_ x):=fun d hd=>by
 rcases aO.mp hd with rfl | hd
 ·exact ll (n+1) x.1
 ·rcases aN.mp hd with rfl
  exact c_
open Classical in
noncomputable def I9 (H:Hp) (l:Addr) (ys:List V) (ps:List (Addr×Addr×Int)):Hp:=fun b=>if b=l then some (.lst ys)else if h: ∃p∈ps,p.1=b then some (.tup [.ref h.choose.2.1, .int h.choose.2.2])else H b
theorem wc(hh:X.A.handled=none)(hu:X.A.units+8 < cLine)(nd:(kv.map (·.1)).Nodup)(mw:kv.length<=sizeLine):g7 X (.builtin "sorted") (fun xs H Q=> ∃v d M,xs= [.ref v]/\H v=some (Oc v d)/\Dn X.K M H (rC kv) (.ref d)/\ ∀l ys H',H l=none->bT H H'->H' l=some (.lst ys)->cN X.K M H' ((uM rm kv).map N_) ys->Q (.ref l) H'):=by
 intro pins s σ H xs us Q I r ⟨v,d,M,e,hv,dn,k⟩
 subst e
 obtain⟨u,rfl,rx⟩:=vals1 r
 cases rx
 obtain⟨a,bs,ea,h1,h2,h3,h4⟩:=dn
 cases ea
 rw [ae]at h2
 obtain⟨hv1,_⟩:=(show fR X.prog X.w H s.heap v (Oc v d)from I.eI v _ hv)
 obtain⟨⟨no,o,es,ep,g1,g2,g3,g4⟩,_⟩:=(show fR X.prog X.w H s.heap d (kQ d _)from I.eI d _ h1)
 obtain⟨zs,a1,a2,a3⟩:=tN (X:=X) h2 g4
 have hes:es.size=kv.length:=by rw [<-aj,a1,ae,a2]
 have ent: ∀j (hj:j < es.size), ∃t,es[j].key= .ref (bs[j]'(by omega))/\es[j].val= .int (kv[j]'(by omega)).2 t:=fun j hj=>by
  obtain⟨t,e⟩:=a3 j (by omega) (by omega) (by omega)
  have q:es[j]=yt (pH X.prog X.w) (zs[j]'(by omega)):=by
   have:es.toList[j]'(by rw [aj]; exact hj)=(zs.map (yt (pH X.prog X.w)))[j]'(by rw [ae]; omega):=by simp only [a1]
   rw [bp]at this
   simpa using this
  rw [q,e]
  exact⟨t,rfl,rfl⟩
 have dnk: ∀j (hj:j < kv.length),Dn X.K M H (mY kv[j].1) (.ref (bs[j]'(by omega))):=fun j hj=>h4.refs (j:=j) (by rw [aA,ah hj]; rfl) (ah _)
 have ndk:kv.Nodup:=by
  refine List.Pairwise.imp ?_ (hV.mp nd)
  intro a b h z
  exact h (by rw [z])
 refine yc (ks:=kv) hh hu hv1 ⟨o,g1,g2,g3⟩ (by rw [hes]; exact mw) hes.symm (fun j hj=> ?_) ndk fun h' D cs out c hD hcl hnew hc so hg hk=> ?_
 ·obtain⟨t,e1,e2⟩:=ent j hj
  obtain⟨b,e,_,t2⟩:=uy I (dnk j (by omega)) (u:= .ref (bs[j]'(by omega))) rfl
  cases e
  exact⟨_,t,e1,e2,t2⟩
 ·obtain⟨qs,p1,p2',p3'⟩:=so
  have ez:(cs.map ak).zip kv=(cs.zip kv).map fun x=>(ak x.1,x.2):=by
   rw [List.zip_map_left]
   rfl
  rw [ez]at p1
  obtain⟨l,l1,l2⟩:=oW p1
  subst l2
  have e2:(cs.zip kv).map (·.2)=kv:=j8 (by omega)
  have ksrt:l.map (·.2)=uM rm kv:=by
   refine wz NA ?_ ?_ ndk
   ·rw [hV]at p3' ⊢
    exact p3'
   ·have:=l1.map (fun x:Addr×(ic×Int)=>x.2)
    rw [e2]at this
    exact this
  rw [dI]at p2'
  have len:l.length=kv.length:=by rw [l1.length_eq,cy]; omega
  let ps:List (Addr×Addr×Int):=cs.zip (bs.zip (kv.map (·.2)))
  have hps: ∀p∈ps, ∃j, ∃hj:j < kv.length,p=(cs[j]'(by omega),bs[j]'(by omega),kv[j].2):=fun p hp=>by
   obtain⟨j,hj,rfl⟩:=aW.mp hp
   have hj':j < kv.length:=by simp only [ps,cy,ae]at hj; omega
   refine⟨j,hj', ?_⟩
   simp [ps]
  have pin: ∀j (hj:j < kv.length),(cs[j]'(by omega),bs[j]'(by omega),kv[j].2)∈ps:=fun j hj=>by
   have hl:j < ps.length:=by simp only [ps,cy,ae]; omega
   have:ps[j]=(cs[j]'(by omega),bs[j]'(by omega),kv[j].2):=by simp [ps]
   rw [<-this]
   exact a_ hl
  have hobj: ∀j (hj:j < kv.length), ∃t,h'.get? (cs[j]'(by omega))=some {cls:= .type "tuple",data:= .seq #[.ref (bs[j]'(by omega)), .int kv[j].2 t]}:=fun j hj=>by
   obtain⟨hj2,e⟩:=hc j (cs[j]'(by omega)) (ah _)
   obtain⟨t,q1,q2⟩:=ent j hj2
   refine⟨t, ?_⟩
   rw [e]
   unfold fZ
   rw [q1,q2]
  have hDc: ∀j (hj:j < kv.length),cs[j]'(by omega)≠D:=fun j hj z=>by
   obtain⟨t,e⟩:=hobj j hj
   rw [z,hg]at e
   exact absurd (show cR "list"=cR "tuple" from congrArg Obj.cls (aH e)) (by decide)
  let ys:List V:=l.map fun x=>V.ref x.1
  have hat: ∀j (hj:j < kv.length),I9 H D ys ps (cs[j]'(by omega))=some (.tup [.ref (bs[j]'(by omega)), .int kv[j].2]):=fun j hj=>by
   have hx: ∃p∈ps,p.1=cs[j]'(by omega):=⟨_,pin j hj,rfl⟩
   unfold I9
   rw [if_neg (hDc j hj),dif_pos hx]
   obtain⟨m1,m2⟩:=hx.choose_spec
   obtain⟨i,hi,ei⟩:=hps _ m1
   rw [ei]at m2 ⊢
   obtain⟨t,q1⟩:=hobj j hj
   obtain⟨t',q2⟩:=hobj i hi
   have m2:cs[i]'(by omega)=cs[j]'(by omega):=m2
   rw [m2,q1]at q2
   simp only [Option.some.injEq,Obj.mk.injEq,Data.seq.injEq,Array.mk.injEq,List.cons.injEq,Value.ref.injEq,Value.int.injEq,and_true,true_and]at q2
   obtain⟨z1,z2,_⟩:=q2
   show some (HO.tup [.ref (bs[i]'(by omega)), .int kv[i].2])=_
   rw [z1,z2]
  have old: ∀b,b < s.heap.objs.size->I9 H D ys ps b=H b:=fun b hb=>by
   unfold I9
   rw [if_neg (aJ (bf hb hD)),dif_neg]
   rintro⟨p,hp,rfl⟩
   obtain⟨j,hj,rfl⟩:=hps p hp
   have:=hnew (cs[j]'(by omega)) (a_ _)
   exact absurd hb (Nat.not_lt.mpr this)
  have I':Inv X pins σ (I9 H D ys ps) {s with heap:=h',toks:=s.toks}:=by
   refine Fw I hk old fun b u hb e=> ?_
   by_cases hbD:b=D
   ·subst hbD
    have e:some (HO.lst ys)=some u:=by rw [<-e]; unfold I9; rw [if_pos rfl]
    cases e
    refine⟨by show(l.map _).length<=_; rw [ae,len]; exact mw,out,c, ?_,hg⟩
    rw [<-p2']
    exact Ht fun x _=>rfl
   ·by_cases hx: ∃p∈ps,p.1=b
    ·obtain⟨p,hp,rfl⟩:=hx
     obtain⟨j,hj,rfl⟩:=hps p hp
     rw [hat j hj]at e
     cases e
     obtain⟨t,q⟩:=hobj j hj
     exact⟨ke (by show 2<=_; omega), [.ref (bs[j]'(by omega)), .int kv[j].2 t], .cons rfl (.cons ⟨t,rfl⟩ .nil),_,q,rfl,_,rfl⟩
    ·have:H b=some u:=by
      unfold I9 at e
      rw [if_neg hbD,dif_neg hx]at e
      exact e
     exact absurd (I.eI.lt this) (Nat.not_lt.mpr hb)
  have sm:bT H (I9 H D ys ps):=fun b o e=>by rw [old b (I.eI.lt e)]; exact e
  refine⟨.ref D,_,I',rfl,k D ys _ (I.eI.fresh hD) sm (by unfold I9; rw [if_pos rfl]) ?_⟩
  rw [<-ksrt,dI]
  refine cN.mapZ fun x hx=> ?_
  have hx2:=l1.mem_iff.mp hx
  obtain⟨j,hj,rfl⟩:=aW.mp hx2
  rw [cy]at hj
  have hj':j < kv.length:=by omega
  rw [gC]
  refine⟨_,_,rfl, .inl (.inl (hat j hj')), ?_⟩
  exact⟨_,_,rfl,(dnk j hj').same sm,_,_,rfl,rfl,rfl⟩
theorem eJ.sortedIt(hh:X.A.handled=none)(hu:X.A.units+8 < cLine)(nd:(kv.map (·.1)).Nodup)(mw:kv.length<=sizeLine)(hg:Gl X "sorted")(hm:X.mg "sorted"=none)(h:aw X ρ e (rC kv))(hbase:j9 e "items" X.env (eval e X.env)=eval e X.env:=by rfl)(hline:(p2.endLine==p3.line)=true:=by rfl)
  (he:au [.Call (.Attribute e "items" p2) [] [] p3] X.env= [(false,eval (.Call (.Attribute e "items" p2) [] [] p3) X.env)]:=by rfl):eJ X ρ (.Call (.Name "sorted" p) [.Call (.Attribute e "items" p2) [] [] p3] [] pos) ((uM rm kv).map N_):=fun M0 H0 γ α σ H Q R k=>
 (iy (wc hh hu nd mw) hg hm (by decide +kernel) (eu (HS iu hbase hline) gZ he) (by decide) (by decide) he).to (h M0 H0 γ α σ H _ R fun v H1 s1 d1=>by
  have d1':=d1
  obtain⟨a,bs,rfl,hd,_⟩:=d1
  refine⟨a,_,rfl,hd,fun v hv=> ?_⟩
  refine⟨v,a,_,rfl,bO,d1'.same (bG hv),fun l ys H2 hl sm hl2 dn=>k l ys _ H2 (s1.trans (bG hv)) hl sm hl2 (cN.map1 (fun d hd v=> ?_) dn)⟩
  obtain⟨x,_,rfl⟩:=bh.mp hd
  exact Dn.bare 9 (Jr 5 x))
end
section
variable {K:Frag}{M M':MP}{H H':Hp}{a b:Addr}{xs:List (Int×Addr×Int)}
theorem Hj{ys:List V}(ha:H a=some (kQ a xs))(h:kq K H b ys):kq K (e7 H a) b ys:=by
 rcases h with(h | ⟨o,h⟩) | h
 ·exact .inl (.inl (kr (fun z=>by rw [z,ha]at h; cases h) h))
 ·exact .inl (.inr ⟨o,kr (fun z=>by rw [z,ha]at h; cases h) h⟩)
 ·exact .inr h
theorem Dn.hideB(ha:H a=some (kQ a xs)): ∀(n:Nat) {d:D} {v:V},D.bare n d->Dn K M H d v->Dn K M' (e7 H a) d v:=by
 intro n
 induction n with
 | zero=>intro d v hf h; cases d <;> first | exact h | exact hf.elim
 | succ n ih=>
  intro d v hf h
  cases d with
  | tup ds=>
   obtain⟨c,ys,e,s,r⟩:=h
   exact⟨c,ys,e,Hj ha s,cN.map1 (fun d hd v=>ih (hf d hd)) r⟩
  | ins C ns ds=>
   obtain⟨c,dx,fs,e,s,hn,r⟩:=h
   exact⟨c,dx,fs,e,kr (fun z=>by rw [z,ha]at s; cases s) s,hn,cN.map1 (fun d hd v=>ih (hf d hd)) r⟩
  | non=>exact h
  | bl _=>exact h
  | int _=>exact h
  | str _=>exact h
  | _=>exact hf.elim
theorem Dn.hideL(ha:H a=some (kQ a xs)){ds:List D}{v:V}(hb: ∀d∈ds,D.bare 9 d)(h:Dn K M H (.lst ds) v):Dn K M (e7 H a) (.lst ds) v:=by
 obtain⟨c,ys,e,s,r⟩:=h
 refine⟨c,ys,e, ?_,cN.map1 (fun d hd v=>Dn.hideB ha 9 (hb d hd)) r⟩
 rcases s with⟨s | ⟨o,s⟩,m⟩ | s
 ·exact .inl ⟨.inl (kr (fun z=>by rw [z,ha]at s; cases s) s),m⟩
 ·exact .inl ⟨.inr ⟨o,kr (fun z=>by rw [z,ha]at s; cases s) s⟩,m⟩
 ·exact .inr s
theorem y_{l:Addr}{o:HO}(h:l≠a):e7 (upd H l o) a=upd (e7 H a) l o:=by
 funext b
 unfold e7 upd
 by_cases h1:b=a
 ·rw [if_pos h1]
  by_cases h2:b=l
  ·exact absurd (h2.symm.trans h1) h
  ·rw [if_neg h2]; exact(if_pos h1).symm
 ·rw [if_neg h1]
  by_cases h2:b=l
  ·rw [if_pos h2,if_pos h2]
  ·rw [if_neg h2,if_neg h2]; exact(if_neg h1).symm
theorem qO{o:HO}:e7 (upd H a o) a=e7 H a:=by
 funext b
 unfold e7 upd
 by_cases h1:b=a
 ·rw [if_pos h1,if_pos h1]
 ·rw [if_neg h1,if_neg h1,if_neg h1]
end
abbrev kD(kv:pJ):List D:=kv.map fun x=>mY x.1
structure dM(X:Cx)(M0:MP)(H0:Hp)(γ:List (D×V))(α:Nat->Addr)(ρ:fm)(σ:St)(H:Hp)(i:Nat)(a:Addr)(kv:pJ):Prop where
 r:Rep X.K M0 H0 γ α ρ σ (e7 H a)
 un:ρ[i]? =some .un
 at_:σ[i]? =some (some (.ref a))
 nd:(kv.map (·.1)).Nodup
 ex: ∃bs:List Addr,bs.length=kv.length/\H a=some (kQ a (qJ (kD kv) bs (kv.map (·.2))))/\cN X.K (MM M0 ρ α) (e7 H a) (kD kv) (bs.map V.ref)
section
variable {X:Cx}{ρ:fm}{M0:MP}{H0 H H':Hp}{γ:List (D×V)}{α:Nat->Addr}{σ:St}{En:Ends}{sts s1 s2 body:List Stmt}{e c:Expr}{d:D}{ds:List D}{pos pos' p p1 p2 p3:Pos}{i j t:Nat}{x:Str}{a:Addr}{kv:pJ}
theorem dM.lt(B:dM X M0 H0 γ α ρ σ H i a kv):i < ρ.length:=(aI.mp B.un).1
theorem dM.next(B:dM X M0 H0 γ α ρ σ H i a kv)(s:bT H H'):dM X M0 H0 γ α ρ σ H' i a kv:=by
 obtain⟨bs,h1,h2,h3⟩:=B.ex
 exact⟨B.r.next (oK s),B.un,B.at_,B.nd,bs,h1,s _ _ h2,h3.same (oK s)⟩
theorem dM.view(B:dM X M0 H0 γ α ρ σ H i a kv):Rep X.K M0 H0 γ α (ρ.set i (.im (rC kv))) σ H:=by
 obtain⟨bs,h1,h2,h3⟩:=B.ex
 exact(B.r.next fy).view B.lt B.at_ ⟨a,bs,rfl,h2,by rw [h1,ae],by rw [ae,ae],h3.same fy⟩
theorem dM.obj(B:dM X M0 H0 γ α ρ σ H i a kv): ∃xs,H a=some (kQ a xs):=let⟨_,_,h,_⟩:=B.ex; ⟨_,h⟩
theorem dM.unghost{q:D×V}(B:dM X M0 H0 (q::γ) α ρ σ H i a kv):dM X M0 H0 γ α ρ σ H i a kv:=⟨B.r.unghost,B.un,B.at_,B.nd,B.ex⟩
theorem dM.put_im(B:dM X M0 H0 γ α ρ σ H i a kv)(hj:j < ρ.length)(hji:j≠i){v:V}(h:Dn X.K (MM M0 ρ α) (e7 H a) d v):dM X M0 H0 γ α (ρ.set j (.im d)) (σ.set j (some v)) H i a kv:=by
 obtain⟨bs,h1,h2,h3⟩:=B.ex
 exact⟨B.r.set_im hj h,by rw [eP hji.symm]; exact B.un,by rw [eP hji.symm]; exact B.at_,B.nd,bs,h1,h2,h3.less fun b z=>mj (fun _ q=>by cases q) z⟩
theorem dM.set(B:dM X M0 H0 γ α ρ σ H i a kv)(hN:X.N.Nodup)(hj:X.N[j]? =some x)(hx:Loc X.env.scope x)(hl:j < ρ.length)(hji:j≠i)(h:aw X (ρ.set i (.im (rC kv))) e d)(hb:D.bare 9 d)
  (k: ∀v H',dM X M0 H0 γ α (ρ.set j (.im d)) (σ.set j (some v)) H' i a kv->oM X sts En (σ.set j (some v)) H')
  (hs:dh e (some (.Name x pos')) pos.line X.env=pure false:=by rfl)(hf:X.fn x=true\/X.env.scope.names.lookup x=some .local:=by first | exact .inl rfl | exact .inr rfl | assumption):oM X (.Assign [.Name x pos'] e pos::sts) En σ H:=
 (dS t_ f_).to ((rG hN hj hx iu hs hf).to (h M0 H0 γ α σ H _ B.view fun v H1 s1 dn=>by
  have D1:=B.next s1
  obtain⟨xs,ho⟩:=D1.obj
  exact k v H1 (D1.put_im hl hji (Dn.hideB ho 9 hb dn))))
theorem dM.ite{b:Bool}(B:dM X M0 H0 γ α ρ σ H i a kv)(h:cU X (ρ.set i (.im (rC kv))) c b)(k1:b=true-> ∀H',dM X M0 H0 γ α ρ σ H' i a kv->oM X s1 En σ H')(k2:b=false-> ∀H',dM X M0 H0 γ α ρ σ H' i a kv->oM X s2 En σ H'):tS X (.If c s1 s2 pos) En σ H:=
 (zf Fc f_ f_).to (h M0 H0 γ α σ H _ B.view fun H1 s1=>by
  cases e:b with
  | true=>exact uv (k1 e H1 (B.next s1))
  | false=>exact sG (k2 e H1 (B.next s1)))
theorem dM.append(B:dM X M0 H0 γ α ρ σ H i a kv)(hj:X.N[j]? =some x)(hv:y7 X.env.scope x)(hji:j≠i)(hρ:ρ[j]? =some (.mu ds))(hlen:ds.length < 1000000)(h:aw X (ρ.set i (.im (rC kv))) e d)(hb:D.bare 9 d)
  (k: ∀H',dM X M0 H0 γ α (ρ.set j (.mu (ds ++ [d]))) σ H' i a kv->En.nx σ H')(mc:My X (.Name x p1) "append" e p2 p3)(hd:(x==("__debug__":Str))=false:=by decide)(hcd:(x==("__classdict__":Str))=false:=by decide)
  (hsw:dh (.Call (.Attribute (.Name x p1) "append" p2) [e] [] p3) none pos.line X.env=pure false:=by rfl):tS X (.Expr (.Call (.Attribute (.Name x p1) "append" p2) [e] [] p3) pos) En σ H:=by
 obtain⟨a1,a2,xs,a3,a4⟩:=B.r.mu j ds hρ
 have hla:α j≠a:=fun z=>by rw [z,qB]at a3; cases a3
 refine MI hj hv B.view a2 (fy _ _ a3) (by rw [a4.len]; exact hlen) h (fun H1 v s1 dn=>k _ ?_) mc hd hcd hsw
 have D1:=B.next s1
 obtain⟨ys,ho⟩:=D1.obj
 obtain⟨_,_,zs,b3,b4⟩:=D1.r.mu j ds hρ
 have e3:zs=xs:=by
  have h1:=fy _ _ b3
  have h2:=s1 _ _ (fy _ _ a3)
  rw [h1]at h2
  cases h2
  rfl
 subst e3
 have dn':Dn X.K (MM M0 ρ α) (e7 H1 a) d v:=Dn.hideB ho 9 hb dn
 obtain⟨bs,q1,q2,q3⟩:=D1.ex
 have R:=D1.r.upd_mu hρ (b4.app (cN.one dn'))
 have kp:p7 (MM M0 ρ α) (e7 H1 a) (upd (e7 H1 a) (α j) (.lst (zs ++ [v]))):=fun b o e n=>by
  by_cases hb:b=α j
  ·subst hb
   rw [b3]at e
   cases e
   exact absurd (.inr ⟨j,ds,hρ,rfl⟩) (n _ rfl)
  ·rw [cD hb]; exact e
 refine⟨by rw [y_ hla]; exact R,by rw [eP hji.symm]; exact D1.un,D1.at_,D1.nd,bs,q1,by rw [cD hla.symm]; exact q2, ?_⟩
 rw [y_ hla]
 refine(q3.keep kp).less fun b z=> ?_
 rcases z with z | ⟨m,es,e,z⟩
 ·exact .inl z
 ·rcases get_set e with⟨rfl,q⟩ | ⟨_,q⟩
  ·exact .inr ⟨m,ds,hρ,z⟩
  ·exact .inr ⟨m,es,q,z⟩
theorem dM.for(I:Nat->fm->pJ->Prop)(hp:vC (model X.prog X.w) X.A X.env X.xe)(hc:X.calm=true)(hN:X.N.Nodup)(ht:X.N[t]? =some x)(hx:Loc X.env.scope x)(hti:t≠i)(B:dM X M0 H0 γ α ρ σ H i a kv)(hs:aw X (ρ.set i (.im (rC kv))) e (.lst ds))(hb: ∀d∈ds,D.bare 9 d)(h0:I 0 ρ kv)(hlt: ∀n ρ kv,I n ρ kv->t < ρ.length)
  (turn: ∀(γ':List (D×V)) (n:Nat) (d:D) (α:Nat->Addr) (ρ:fm) (σ:St) (H:Hp) (kv:pJ),ds[n]? =some d->I n ρ kv->dM X M0 H0 γ' α (ρ.set t (.im d)) σ H i a kv->oM X body {En with nx:=fun σ H=> ∃α ρ kv,dM X M0 H0 γ' α ρ σ H i a kv/\I (n+1) ρ kv,ct:=fun σ H=> ∃α ρ kv,dM X M0 H0 γ' α ρ σ H i a kv/\I (n+1) ρ kv,bk:=En.nx} σ H)
  (done: ∀α ρ σ H kv,I ds.length ρ kv->dM X M0 H0 γ α ρ σ H i a kv->En.nx σ H)(hf: ∀x,jz e X.env x=pure x:=by intro _; rfl)(hfn:X.fn x=true\/X.env.scope.names.lookup x=some .local:=by first | exact .inl rfl | exact .inr rfl | assumption):tS X (.For (.Name x p) e body [] pos) En σ H:=by
 refine(GJ hp hc (Cg iu) Us f_ hf).to (hs M0 H0 γ α σ H _ B.view fun v H1 s1 dn=> ?_)
 have D1:=B.next s1
 obtain⟨ys,ho⟩:=D1.obj
 have dn':Dn X.K (MM M0 ρ α) (e7 H1 a) (.lst ds) v:=(Dn.hideL ho hb dn).less fun b z=>by
  rcases z with z | ⟨m,es,e,z⟩
  ·exact .inl z
  ·refine .inr ⟨m,es, ?_,z⟩
   rw [eP (fun q=>by rw [q,B.un]at e; cases e)]
   exact e
 obtain⟨l,xs,rfl,sq,dd⟩:=id dn'
 refine⟨l,rfl,⟨xs,fy.seq sq.l⟩,fun n m σ H=>m=ds.length - n/\n<=ds.length/\ ∃α ρ kv,dM X M0 H0 ((.lst ds, .ref l)::γ) α ρ σ H i a kv/\I n ρ kv,⟨ds.length,by simp,bN _,α,ρ,kv,⟨D1.r.ghost dn',D1.un,D1.at_,D1.nd,D1.ex⟩,h0⟩, ?_⟩
 rintro n m σ2 H2 ⟨rfl,hn,α2,ρ2,kv2,D2,i2⟩
 obtain⟨l',xs',el,sq',dn2⟩:=D2.r.gh _ ck
 cases el
 by_cases hlt':n < ds.length
 ·refine .inr ⟨⟨xs',xs'[n]'(by rw [dn2.len]; exact hlt'),fy.seq sq'.l,ah _⟩,fun σ' H'=> ∃α ρ kv,dM X M0 H0 ((.lst ds, .ref l)::γ) α ρ σ' H' i a kv/\I (n+1) ρ kv,
   fun σ' H' ⟨α',ρ',kv',D',i'⟩=>⟨ds.length - (n+1),by omega,rfl,hlt',α',ρ',kv',D',i'⟩,fun y H' hy=> ?_⟩
  obtain⟨e,hy⟩:=hy
  subst e
  obtain⟨d,hd',dd⟩:=dn2.getV (hy xs' (fy.seq sq'.l))
  refine(tM hN ht hx hfn).to ?_
  exact turn _ n d α2 ρ2 _ _ kv2 hd' i2 (D2.put_im (hlt n ρ2 kv2 i2) hti dd)
 ·have e:n=ds.length:=by omega
  subst e
  exact .inl ⟨⟨xs',fy.seq sq'.l,by rw [dn2.len]; exact ay _⟩,done α2 ρ2 σ2 H2 kv2 i2 D2.unghost⟩
theorem dM.while(I:fm->pJ->Prop)(μ:fm->pJ->Nat)(hp:vC (model X.prog X.w) X.A X.env X.xe)(B:dM X M0 H0 γ α ρ σ H i a kv)(h0:I ρ kv)
  (turn: ∀(α:Nat->Addr) (ρ:fm) (σ:St) (kv:pJ),I ρ kv-> ∃b,cU X (ρ.set i (.im (rC kv))) c b/\(b=true-> ∀H,dM X M0 H0 γ α ρ σ H i a kv->oM X body {En with nx:=fun σ H=> ∃α ρ' kv',dM X M0 H0 γ α ρ' σ H i a kv'/\I ρ' kv'/\μ ρ' kv' < μ ρ kv,ct:=fun σ H=> ∃α ρ' kv',dM X M0 H0 γ α ρ' σ H i a kv'/\I ρ' kv'/\μ ρ' kv' < μ ρ kv,bk:=En.nx} σ H)/\(b=false-> ∀H,dM X M0 H0 γ α ρ σ H i a kv->En.nx σ H)):tS X (.While c body [] pos) En σ H:=by
 refine(zE hp Fc f_).to ⟨fun m σ H=> ∃α ρ kv,dM X M0 H0 γ α ρ σ H i a kv/\I ρ kv/\μ ρ kv=m,⟨μ ρ kv,α,ρ,kv,B,h0,rfl⟩, ?_⟩
 rintro m σ2 H2 ⟨α2,ρ2,kv2,D2,i2,rfl⟩
 obtain⟨b,h1,h2,h3⟩:=turn α2 ρ2 σ2 kv2 i2
 refine h1 M0 H0 γ α2 σ2 H2 _ D2.view fun H3 s=> ?_
 cases e:b with
 | true=>exact uv ⟨fun σ H=> ∃α ρ' kv',dM X M0 H0 γ α ρ' σ H i a kv'/\I ρ' kv'/\μ ρ' kv' < μ ρ2 kv2,fun σ' H' ⟨α',ρ',kv',D',i',l'⟩=>⟨_,l',α',ρ',kv',D',i',rfl⟩,h2 e H3 (D2.next s)⟩
 | false=>exact sG (h3 e H3 (D2.next s))
end
theorem zl: ∀{xs:List (Int×Addr×Int)} {es:List eL} {x:Int×Addr×Int} {e:eL},o6 xs es->(∃t,e=⟨x.1, .ref x.2.1, .int x.2.2 t⟩)->o6 (xs ++ [x]) (es ++ [e])
 | [], [],_,_,_,h=>⟨h,trivial⟩
 | [],_::_,_,_,h,_=>h.elim
 | _::_, [],_,_,h,_=>h.elim
 | _::_,_::_,_,_,h,q=>⟨h.1,zl h.2 q⟩
theorem t9: ∀ks:List D,(jq ks).length=ks.length
 | []=>rfl
 | k::ks=>by show(jq ks).length+1=_; rw [t9 ks]; rfl
theorem uD: ∀(a b:List D),jq (a ++ b)=jq a ++ jq b
 | [],b=>rfl
 | k::a,b=>by rw [nZ]; show qK k::jq (a ++ b)=_; rw [uD a b]; rfl
theorem Dv{ks:List D}{bs:List Addr}{ns:List Int}{k:D}{b:Addr}{n:Int}(h1:bs.length=ks.length)(h2:ns.length=ks.length):qJ (ks ++ [k]) (bs ++ [b]) (ns ++ [n])=qJ ks bs ns ++ [(qK k,b,n)]:=by
 unfold qJ
 rw [uD,List.zip_append (by omega),List.zip_append (by rw [t9,cy]; omega)]
 rfl
section
variable {X:Cx}{ρ:fm}{M0:MP}{H0 H H':Hp}{γ:List (D×V)}{α:Nat->Addr}{σ:St}{En:Ends}{sts:List Stmt}{k v e o i':Expr}{tk tv td:TE}{d:D}{pos pos' p p1 p2 p3:Pos}{i j:Nat}{x y:Str}{a:Addr}{kv:pJ}{rs:ic}{n:Int}
theorem Ii(hu:X.A.units+8 < cLine)(hk:PE X k tk)(hv:PE X v tv):PE X (.Dict [some k] [v] pos) (fun σ H Q=> ∀a,H a=none->tk σ (upd H a (kQ a [])) fun x H1=>tv σ H1 fun y H2=> ∃M rs n b,x= .ref b/\y= .int n/\Dn X.K M H2 (mY rs) (.ref b)/\H2 a=some (kQ a [])/\Q (.ref a) (upd H2 a (kQ a [(qK (mY rs),b,n)]))):=by
 intro pins s σ H Q I h
 have hn:=I.eI.fresh (ay s.heap.objs.size)
 have big:jd < s.heap.objs.size:=by
  have h:ax < s.heap.objs.size:=(I.mod.glob.keeps I.bk).lt
  exact N6 (by decide) h
 have no:(s.heap.objs.size==jd)=false:=beq_eq_false_iff_ne.mpr (sQ (aJ big))
 have I1:=I.laid (a:=s.heap.objs.size) (o:=kQ s.heap.objs.size []) (h':=s.heap.push {cls:= .type "dict",data:= .dict #[]}) (t':=s.toks) (fun _ _ q=>ag _ q) (ay _)
  ⟨⟨no,_, #[],0,az _ rfl,⟨rfl,rfl,rfl⟩,rfl,trivial⟩,⟨_,az _ rfl⟩,fun h1 h2 ⟨q1,o,es,ep,q2,q3⟩ kk=>⟨q1,o,es,ep,kk _ q2,q3⟩⟩
 refine FK (knd:=pH X.prog X.w) (by show X.A.units+2 < cLine; omega) (fg (hk pins _ σ _ _ I1 (h _ hn)) fun kv' s1 ⟨x,H1,J1,r1,q1⟩=>fg (hv pins s1 σ H1 _ J1 q1) fun vv s2 ⟨y,H2,J2,r2,M,rs,n,b,ex,ey,dn,ho,q⟩=> ?_)
 subst ex ey
 obtain⟨t,rfl⟩:=(show ∃t,vv=gW n t from r2)
 obtain⟨b',e1,e2,t2⟩:=uy J2 dn r1
 cases e2
 obtain⟨⟨_,ob,es,ep,g1,g2,g3,g4⟩,_⟩:=(show fR X.prog X.w H2 s2.heap s.heap.objs.size (kQ s.heap.objs.size [])from J2.eI _ _ ho)
 have hes:es.toList= []:=by
  cases h:es.toList with
  | nil=>rfl
  | cons e r=>rw [h]at g4; exact g4.elim
 refine⟨b,rs,e1,t2,⟨ob,es,ep,g1,g2,g3,hes,fun _ hx=>absurd hx dR,qr⟩,fun h' dd sb=>⟨.ref s.heap.objs.size,_, ?_,rfl,q⟩⟩
 obtain⟨o2,es2,ep2,f1,f2,f3,f4,_,_⟩:=dd
 refine J2.write (x:=s.heap.objs.size) (e:=s.heap.objs.size) (by rw [ho]; exact c_) (.inl rfl) (fun b q hb z=>(sb.2 b hb).trans z) ⟨_,f1⟩ ⟨⟨no,o2,es2,ep2,f1,f2,f3, ?_⟩,⟨_,f1⟩,fun h1 h2 ⟨q1,o,es,ep,q2,q3⟩ kk=>⟨q1,o,es,ep,kk _ q2,q3⟩⟩
 rw [f4]
 refine⟨⟨t, ?_⟩,trivial⟩
 show(⟨wy X.prog X.w rs,_,_⟩:eL)=_
 rw [xR X.prog X.w]
theorem dM.start(hu:X.A.units+8 < cLine)(R:Rep X.K M0 H0 γ α ρ σ H)(hN:X.N.Nodup)(hj:X.N[i]? =some x)(hx:Loc X.env.scope x)(hl:i < ρ.length)(hk:aw X ρ k (mY rs))(hv:aw X ρ v (.int n))
  (kk: ∀a H',dM X M0 H0 γ α (ρ.set i .un) (σ.set i (some (.ref a))) H' i a [(rs,n)]->oM X sts En (σ.set i (some (.ref a))) H')
  (hs:dh (.Dict [some k] [v] p) (some (.Name x pos')) pos.line X.env=pure false:=by rfl)(hf:X.fn x=true\/X.env.scope.names.lookup x=some .local:=by first | exact .inl rfl | exact .inr rfl | assumption):oM X (.Assign [.Name x pos'] (.Dict [some k] [v] p) pos::sts) En σ H:=by
 refine(dS t_ f_).to ((rG hN hj hx (Ii hu iu iu) hs hf).to fun a ha=>hk M0 H0 γ α σ _ _ (R.next (bG ha)) fun u H1 s1 d1=>hv M0 H0 γ α σ H1 _ ((R.next (bG ha)).next s1) fun w H2 s2 d2=> ?_)
 cases (show w= .int n from d2)
 obtain⟨b,ys,rfl,sq,dd⟩:=id d1
 have ho:H2 a=some (kQ a []):=s2 _ _ (s1 _ _ bO)
 refine⟨_,rs,n,b,rfl,rfl,d1.same s2,ho,kk a _ ?_⟩
 have sm:bT H (e7 (upd H2 a (kQ a [(qK (mY rs),b,n)])) a):=fun c o e=>by
  rw [qO]
  have hne:c≠a:=fun z=>by rw [z,ha]at e; cases e
  exact kr hne (s2 _ _ (s1 _ _ ((bG ha) _ _ e)))
 have dk:Dn X.K (MM M0 ρ α) (e7 (upd H2 a (kQ a [(qK (mY rs),b,n)])) a) (mY rs) (.ref b):=by
  rw [qO]
  exact Dn.hideB ho 9 (ll 7 rs) (d1.same s2)
 refine⟨(R.next sm).forget,tw hl,tw (by rw [R.len]; exact hl),by simp, [b],rfl, ?_, ?_⟩
 ·rw [bO]
  rfl
 ·exact⟨_,_,rfl,dk.less fun c z=>mj (fun _ q=>by cases q) z,rfl⟩
theorem dM.put(hu:X.A.units+8 < cLine)(B:dM X M0 H0 γ α ρ σ H i a kv)(hi:X.N[i]? =some x)(hvx:y7 X.env.scope x)(hk:aw X (ρ.set i (.im (rC kv))) k (mY rs))(he:aw X (ρ.set i (.im (rC kv))) e (.int n))(hnew:rs∉kv.map (·.1))(mw:kv.length<=sizeLine)
  (kk: ∀H',dM X M0 H0 γ α ρ σ H' i a (kv ++ [(rs,n)])->En.nx σ H')(hs:dh e (some (.Subscript (.Name x p1) k pos')) pos.line X.env=pure false:=by rfl)(hd:(x==("__debug__":Str))=false:=by decide)(hcd:(x==("__classdict__":Str))=false:=by decide):tS X (.Assign [.Subscript (.Name x p1) k pos'] e pos) En σ H:=by
 intro pins s I
 refine wpAny_Assign_Subscript (fg (he M0 H0 γ α σ H (fun v H1=>bT H H1/\v= .int n) B.view (fun v H1 s1 d1=>⟨s1,d1⟩) pins s I) fun r st1 ⟨v,H1,I1,rv,s1,ev⟩=> ?_) hs
 subst ev
 obtain⟨t,rfl⟩:=(show ∃t,r=gW n t from rv)
 have B1:=B.next s1
 refine fg ((ng hi hvx hd hcd) pins st1 σ H1 (fun u H2=>u= .ref a/\H2=H1) I1 ⟨_,B1.at_,rfl,rfl⟩) fun u st2 ⟨z,H2,I2,rz,ez,eH⟩=> ?_
 subst ez eH
 obtain rfl:u=ak a:=rz
 refine fg (hk M0 H0 γ α σ H2 (fun w H3=>bT H2 H3/\Dn X.K (MM M0 (ρ.set i (.im (rC kv))) α) H3 (mY rs) w) B1.view (fun w H3 s3 d3=>⟨s3,d3⟩) pins st2 I2) fun w st3 ⟨y,H3,I3,ry,s3,d3⟩=> ?_
 have B2:=B1.next s3
 obtain⟨bs,q1,q2,q3⟩:=B2.ex
 obtain⟨xs,dc⟩:=K1 I3 B2.nd q2 q1 (q3.same fy)
 obtain⟨b,rfl,rfl,t2⟩:=uy I3 d3 ry
 have hl:=dc.len
 refine wpAny_setItem_heap (knd:=pH X.prog X.w) (hsz:=by omega) (by show X.A.in1.units+2 < cLine; rw [j6]; omega) t2 dc.d fun h' dd sb=> ?_
 obtain⟨⟨no,ob,es,ep,g1,g2,g3,g4⟩,_⟩:=(show fR X.prog X.w H3 st3.heap a (kQ a _)from I3.eI a _ q2)
 rw [storedH_new (dc.miss hnew)]at dd
 obtain⟨o2,es2,ep2,f1,f2,f3,f4,_,_⟩:=dd
 obtain⟨o3,es3,ep3,e1,e2,e3,e4,_,_⟩:=dc.d
 rw [g1]at e1
 cases e1
 rw [g3]at e3
 cases e3
 have hents:o6 (qJ (kD (kv ++ [(rs,n)])) (bs ++ [b]) ((kv ++ [(rs,n)]).map (·.2))) es2.toList:=by
  have z1:kD (kv ++ [(rs,n)])=kD kv ++ [mY rs]:=by unfold kD; rw [bC]; rfl
  have z2:(kv ++ [(rs,n)]).map (·.2)=kv.map (·.2) ++ [n]:=by rw [bC]; rfl
  rw [z1,z2,Dv (by rw [q1,ae]) (by rw [ae,ae]),f4,bC, <-e4]
  refine zl g4 ⟨t, ?_⟩
  show(⟨wy X.prog X.w rs,_,_⟩:eL)=_
  rw [xR X.prog X.w]
 have I4:Inv X pins σ (upd H3 a (kQ a (qJ (kD (kv ++ [(rs,n)])) (bs ++ [b]) ((kv ++ [(rs,n)]).map (·.2))))) {st3 with heap:=h',toks:=st3.toks+(pH X.prog X.w).draws rs}:=
  I3.write (x:=a) (e:=a) (by rw [q2]; exact c_) (.inl rfl) (fun b q hb z=>(sb.2 b hb).trans z) ⟨_,f1⟩ ⟨⟨no,o2,es2,ep2,f1,f2,f3,hents⟩,⟨_,f1⟩,fun h1 h2 ⟨q1,o,es,ep,q2,q3⟩ kk=>⟨q1,o,es,ep,kk _ q2,q3⟩⟩
 refine⟨σ,_,I4,kk _ ⟨by rw [qO]; exact B2.r,B2.un,B2.at_, ?_,bs ++ [b], ?_,bO, ?_⟩⟩
 ·rw [bC,jE]
  refine⟨B2.nd,by simp,fun u hu w hw=> ?_⟩
  rcases aN.mp hw with rfl
  rintro rfl
  exact hnew hu
 ·rw [ao,ao,q1]
  rfl
 ·rw [qO]
  have z1:kD (kv ++ [(rs,n)])=kD kv ++ [mY rs]:=by unfold kD; rw [bC]; rfl
  rw [z1,bC]
  exact q3.app (cN.one (Dn.hideB q2 9 (ll 7 rs) d3))
end
section
variable {prog:aq}{w:World}{A:bA}{R:Result->ai->Prop}{s:ai}
theorem A5{elt target iter c:Expr}{scope:Scope}{pos:Pos}{it acc:Value}{env:Env}(I:Nat->ai->Prop)
  (turn: ∀n s,I n s->wpAny (model prog w) A (je it) (fun r s₁=>match r with
   | none=>R (.ok .next) s₁
   | some v=>wpAny (model prog w) A (o9 target it v) (fun _ s₂=>wpAny (model prog w) A (qp target env v) (fun _ s₃=>wpAny (model prog w) A (isTrue c env (eval c env)) (fun b s₃'=>if b=true then wpAny (model prog w) A (eval elt env) (fun y s₄=>
     wpAny (model prog w) A (call (.builtin "list.append") [acc,y]) (fun _ s₅=> ∃m,m < n/\I m s₅) zH s₄) zH s₃' else ∃m,m < n/\I m s₃') zH s₃) zH s₂) zH s₁) zH s)(n:Nat)(h:I n s):
  fK (model prog w) A (.compLoop (.ListComp elt [⟨target,iter, [c],0⟩] scope pos) 0 it acc env) R s:=by
 refine codeAny_loop rfl I (fun n s hI=> ?_) n h
 show wpAny _ A ((compTurn (.ListComp elt [⟨target,iter, [c],0⟩] scope pos) 0 it acc env).onRaise (fun x=>do vG x env; theTreesLotGoes x)) _ _ s
 refine wpAny_noted ?_
 rw [compTurn_list]
 refine aa (rd (aa (bW (turn n s hI) (fun r s₁ h₁=> ?_) fun _ _ z=>z.elim)))
 cases r with
 | none=>exact af h₁
 | some v=>
  refine aa (bW h₁ (fun _ s₂ h₂=> ?_) fun _ _ z=>z.elim)
  refine aa (bW h₂ (fun _ s₃ h₃=>aa ?_) fun _ _ z=>z.elim)
  rw [dg]
  refine aa (aa (bW h₃ (fun b s₃' h₃'=>af ?_) fun _ _ z=>z.elim))
  dsimp only
  rw [gA]
  refine af ?_
  cases b with
  | true=>
   rw [if_pos rfl]at h₃' ⊢
   exact aa (aa (bW h₃' (fun y s₄ h₄=>aa (bW h₄ (fun _ s₅ h₅=>af (af ⟨rfl,h₅⟩)) fun _ _ z=>z.elim)) fun _ _ z=>z.elim))
  | false=>
   rw [if_neg aF]at h₃' ⊢
   exact af ⟨rfl,h₃'⟩
end
structure Nb(K:Frag)(M:MP)(H1:Hp)(ds:List D)(f:D->Bool)(i:Nat)(D0:Addr)(ys:List V)(H:Hp):Prop where
 same:bT H1 H
 at_:H D0=some (.lst ys)
 dn:cN K (fun a=>M a\/a=D0) H ((ds.take i).filter f) ys
section
variable {X:Cx}{pins:List (Addr×Obj)}{σ:St}{H1:Hp}{s₂:ai}{N':List Str}{js:List Nat}{scope:Scope}{x:Str}{cl:List (Str×Addr)}{px pos:Pos}{elt iter:Expr}{J:It}{fp:List Addr}{it:Addr}{tn:Nat->Heap->Prop}
 {ds cs:List D}{gs:List (D×V)}{M:MP}{E:Value->ai->Prop}{RR:Value->Addr->Result->ai->Prop}
theorem zj{c:Expr}{f:D->Bool}(ok:eY X N' js scope x cl)(hc:X.calm=true)(hnd:N'.Nodup)(I:Inv X pins σ H1 s₂)(T:Turn X.prog X.w X.K (.Name x px) J fp it tn)(st:tn 0 s₂.heap)(hf: ∀b∈fp,kc X pins H1 b)
  (hg: ∀p∈gs,Dn X.K M H1 p.1 p.2)(w:Walk X.K J ds gs)(hsz:ds.length<=1000000)(hcap:GO X.K M H1 σ js cs)(hM: ∀a,M a->H1 a≠none)
  (htst: ∀(C:Addr) (s₀:ai) (H₀:Hp) (i:Nat) (d:D),ds[i]? =some d->cU (jU X N' scope cl C s₀ H₀ fp pins) (kR d cs) c (f d))
  (helt: ∀(C:Addr) (s₀:ai) (H₀:Hp) (i:Nat) (d:D),ds[i]? =some d->aw (jU X N' scope cl C s₀ H₀ fp pins) (kR d cs) elt d)
  (hRR: ∀(D0 C:Addr) (m:Str->Option Value) (s1:ai) (H:Hp) (ys:List V),Inv X pins σ H s1->s1.heap.Ns C m->kc X pins H C->H1 D0=none->bT H1 H->H D0=some (.lst ys)->cN X.K (fun a=>M a\/a=D0) H (ds.filter f) ys->RR (.ref D0) C (.ok .next) s1):
  wpAny (model X.prog X.w) X.A (newList []) (fun acc s₃=>wpAny (model X.prog X.w) X.A (newFunctionEnv scope X.env.globals cl [] X.env.qual none .none (some X.env)) (fun cenv s₄=>
   fK (model X.prog X.w) X.A (.compStart (.ListComp elt [⟨.Name x px,iter, [c],0⟩] scope pos) 0 (.ref it) acc {cenv with scope:=qx scope X.env}) (RR acc cenv.locals) s₄) E s₃) E s₂:=by
 refine bw (wpAny_newFunctionEnv ok.cell (by intro y hy; simp at hy) (fun h₁ hns₁ hsb₁=> ?_) ok.kind)
 dsimp only at hns₁ hsb₁ ⊢
 have hD:H1 s₂.heap.objs.size=none:=I.fresh
 have I3:Inv X pins σ (upd H1 s₂.heap.objs.size (.lst [])) {s₂ with heap:=s₂.heap.push {cls:= .type "list",data:= .seq ([]:List Value).toArray}}:=I.lnew (its:= []) (t':=s₂.toks) (ys:= []) .nil (bN _)
 have obj2: ∀b∈fp, ∃o,s₂.heap.get? b=some o:=fun b hb=>let⟨o,e,_⟩:=T.obj _ _ st b hb; ⟨o,e⟩
 have lt2: ∀b∈fp,b < s₂.heap.objs.size:=fun b hb=>let⟨o,e⟩:=obj2 b hb; av e
 have hf3: ∀b∈fp,kc X pins (upd H1 s₂.heap.objs.size (.lst [])) b:=fun b hb=>⟨by rw [cD (aJ (lt2 b hb))]; exact(hf b hb).1,(hf b hb).2⟩
 generalize hH2:s₂.heap.push {cls:= .type "list",data:= .seq ([]:List Value).toArray}=H2 at I3 hns₁ hsb₁ ⊢
 have sz3:H2.objs.size=s₂.heap.objs.size+1:=by rw [<-hH2,cO]
 have lt3: ∀b∈fp,b < H2.objs.size:=fun b hb=>by rw [sz3]; exact cH (lt2 b hb)
 have k1: ∀b o,H2.get? b=some o->h₁.get? b=some o:=fun b o e=>hsb₁.extBut b o (aJ (av e)) (ag _ e)
 have k2: ∀b o,s₂.heap.get? b=some o->h₁.get? b=some o:=fun b o e=>k1 b o (by rw [<-hH2]; exact ag _ e)
 have I4:=ok.inv (tk:=s₂.toks+([]:List (Str×Value)).length) I3 hf3 lt3 hns₁ k1
 have st4:tn 0 h₁:=T.keep _ _ _ st fun b hb o e=>k2 b o e
 generalize hX:jU X N' scope cl H2.objs.size {s₂ with heap:=H2} (upd H1 s₂.heap.objs.size (.lst [])) fp pins=X' at I4
 have hfp: ∀(H:Hp),(∀b∈fp,H b=none)-> ∀b∈fp,kc X' [] H b:=fun H hn b hb=>by
  subst hX
  refine⟨hn b hb,aJ (lt3 b hb),tK I3 (hf3 b hb).2.1 (hf3 b hb).2.2.1, .inl hb,fun y c e=>(hf3 b hb).2.2.2.2.1 y c (ok.sub y c e),fun p hp=> ?_⟩
  have z:p∈(X.pn ++ pins) ++ []:=hp
  rw [bq]at z
  exact(hf3 b hb).2.2.2.2.2 p z
 have out: ∀(H:Hp) (s1:ai) (σ':St),Inv X' [] σ' H s1->Inv X pins σ H s1/\kc X pins H H2.objs.size:=fun H s1 σ' J=>by
  subst hX
  exact ok.out I3 hf3 J
 have elt': ∀(i:Nat) (d:D),ds[i]? =some d->aw X' (kR d cs) elt d:=fun i d h1=>by
  subst hX
  exact helt _ _ _ i d h1
 have tst': ∀(i:Nat) (d:D),ds[i]? =some d->cU X' (kR d cs) c (f d):=fun i d h1=>by
  subst hX
  exact htst _ _ _ i d h1
 have env':X'.env=compEnvC scope cl H2.objs.size X.env:=by rw [<-hX]; rfl
 have N0:X'.N=N':=by rw [<-hX]; rfl
 have p1:X'.prog=X.prog:=by rw [<-hX]; rfl
 have p2:X'.w=X.w:=by rw [<-hX]; rfl
 have p3:X'.K=X.K:=by rw [<-hX]; rfl
 have p4:X'.calm=true:=by rw [<-hX]; exact hc
 have p5:X'.A=X.A:=by rw [<-hX]; rfl
 have p6:X'.xe=zH:=by rw [<-hX]; rfl
 clear hX
 obtain⟨r0,er0,hrl,hr⟩:=ok.hN
 have hN0:X'.N[0]? =some x:=by rw [N0,er0]; rfl
 have hLoc:X'.env.scope.names.lookup x=some .local:=by rw [env']; exact lookup_relabel_local ok.own
 have hMD: ∀a,(M a\/a=s₂.heap.objs.size)-> ∀H,bT H1 H->(∃ys,H s₂.heap.objs.size=some (.lst ys))->H a≠none:=fun a ha H sm hD' z=>by
  rcases ha with ha | rfl
  ·exact hM a ha (sm.free z)
  ·obtain⟨ys,e⟩:=hD'
   rw [z]at e; cases e
 have loop: ∀s₃:ai,s₃={s₂ with heap:=h₁,toks:=s₂.toks+([]:List (Str×Value)).length}->
   fK (model X.prog X.w) X.A (.compLoop (.ListComp elt [⟨.Name x px,iter, [c],0⟩] scope pos) 0 (.ref it) (.ref s₂.heap.objs.size) (compEnvC scope cl H2.objs.size X.env)) (RR (.ref s₂.heap.objs.size) H2.objs.size) s₃:=by
  intro s₃ es3
  refine A5 (fun n s'=> ∃(i:Nat) (ys:List V) (H:Hp) (σ':St),n=ds.length - i/\i<=ds.length/\Inv X' [] σ' H s'/\(∃ov,σ'=ov::(Mj σ js).tail)/\tn i s'.heap/\(∀b∈fp,H b=none)/\Nb X.K M H1 ds f i s₂.heap.objs.size ys H) ?_ ds.length
   ⟨0, [],_,_,rfl,bN _,by rw [es3]; exact I4,⟨none,rfl⟩,by rw [es3]; exact st4,fun b hb=>(hf3 b hb).1,bG hD,bO,by rw [il]; exact rfl⟩
  rintro n s' ⟨i,ys,H,σ',rfl,hi,Iv,⟨ov,eσ⟩,sti,fri,ci⟩
  have gsH: ∀p∈gs,Dn X.K (fun a=>M a\/a=s₂.heap.objs.size) H p.1 p.2:=fun p hp=>((hg p hp).re fun a m=>m.elim .inl fun z=> .inr (by rw [z]; exact hD)).same ci.same
  obtain⟨w1,w2⟩:=w _ H gsH
  have item:=T.item X' p1 p2 p3 p4 i [] s' σ' H zH Iv (hfp H fri) sti
  have done:=T.done X' p1 p2 p3 p4 i [] s' σ' H zH Iv (hfp H fri) sti
  rw [p5]at item done
  by_cases hlt:i < ds.length
  ·obtain⟨g1,g2⟩:=w1 i ds[i] (ah hlt)
   refine fg (item g1) fun r s4 ⟨u,hr',h4⟩=> ?_
   subst hr'
   refine fg h4 fun _ s5 ⟨y,H5,I5,r5,y5,st5,fr5⟩=> ?_
   obtain⟨sm5,d5⟩:=g2 y H5 y5
   have I5':=I5.pinned (hfp H5 fr5) (T.obj _ _ st5)
   have asg:=tM (X:=X') (pos:=px) (i:=0) (by rw [N0]; exact hnd) hN0 (.inl hLoc) (.inr hLoc) _ s5 σ' H5 y u (fun σ6 H6=>σ6=σ'.set 0 (some y)/\H6=H5) I5' r5 ⟨rfl,rfl⟩
   rw [p1,p2,p5,p6,env']at asg
   refine fg asg fun _ s6 ⟨σ6,H6,I6,e6,e6'⟩=> ?_
   subst e6 e6'
   have ei:ds[i]? =some ds[i]:=ah hlt
   have ev:=elt' i _ ei
   have tv:=tst' i _ ei
   have sm15:bT H1 H6:=ci.same.trans sm5
   have hD5:H6 s₂.heap.objs.size=some (.lst ys):=sm5 _ _ ci.at_
   have Rp:Rep X'.K (fun a=>M a\/a=s₂.heap.objs.size) H6 [] (fun _=>0) (kR ds[i] cs) (σ'.set 0 (some y)) H6:=by
    refine⟨bT.refl _,fun a ha=>hMD a ha H6 sm15 ⟨ys,hD5⟩,fun k l fs gs' e1=> ?_,fun k d0 e1=> ?_,fun k fs e1=> ?_,(fun p hp=>by cases hp), ?_⟩
    ·exfalso
     unfold kR at e1
     cases k with
     | zero=>cases aH e1
     | succ k=>
      rw [cG,aA]at e1
      cases z:cs[k]? with
      | none=>rw [z]at e1; cases e1
      | some c=>rw [z]at e1; cases aH e1
    ·have mmM: ∀a,MM (fun a=>M a\/a=s₂.heap.objs.size) (kR ds[i] cs) (fun _=>0) a->(M a\/a=s₂.heap.objs.size):=fun a ha=>by
      rcases ha with ha | ⟨k',fs,e2,_⟩
      ·exact ha
      ·exfalso
       unfold kR at e2
       cases k' with
       | zero=>cases aH e2
       | succ k'=>
        rw [cG,aA]at e2
        cases z:cs[k']? with
        | none=>rw [z]at e2; cases e2
        | some c=>rw [z]at e2; cases aH e2
     subst eσ
     unfold kR at e1
     cases k with
     | zero=>
      have z:Sl.im ds[i]=Sl.im d0:=aH e1
      cases z
      refine⟨y,rfl, ?_⟩
      rw [p3]
      exact d5.less mmM
     | succ k=>
      rw [cG,aA]at e1
      cases z:cs[k]? with
      | none=>rw [z]at e1; cases e1
      | some c=>
       rw [z]at e1
       have z':Sl.im c=Sl.im d0:=aH e1
       have hk:k < js.length:=by rw [hcap.1]; exact(aI.mp z).1
       obtain⟨v,hv,dv⟩:=hcap.2 k js[k] c (ah hk) z
       cases z'
       refine⟨v, ?_, ?_⟩
       ·show(js.map fun j=>(σ[j]?).join)[k]? =some (some v)
        rw [aA,ah hk]
        show some (σ[js[k]]?).join=_
        rw [hv]
        rfl
       ·rw [p3]
        exact(((dv.re fun a m=>m.elim .inl fun q=> .inr (by rw [q]; exact hD)).same sm15)).less mmM
    ·exfalso
     unfold kR at e1
     cases k with
     | zero=>cases aH e1
     | succ k=>
      rw [cG,aA]at e1
      cases z:cs[k]? with
      | none=>rw [z]at e1; cases e1
      | some c=>rw [z]at e1; cases aH e1
    ·subst eσ
     rw [bL]
     show(js.map fun j=>(σ[j]?).join).length+1=(cs.map Sl.im).length+1
     rw [ae,ae,hcap.1]
   have tvw:=tv _ H6 [] (fun _=>0) _ H6 (fun b H'=>b=f ds[i]/\bT H6 H') Rp (fun H' sm=>⟨rfl,sm⟩) _ s6 I6
   rw [p1,p2,p5,p6,env']at tvw
   refine fg tvw fun b s6' ⟨H6',I6',eb,sm6⟩=> ?_
   subst eb
   cases ef:f ds[i]with
   | false=>
    rw [if_neg aF]
    refine⟨ds.length - (i+1),by omega,i+1,ys,_,_,rfl,hlt,I6'.unpinned,⟨some y,by rw [eσ]; rfl⟩,
     T.keep _ _ _ st5 fun b hb o e=>(I6'.pin (b,o) (ba _ (ba _ (g9 hb e)))).1,fun b hb=> ?_,sm15.trans sm6,sm6 _ _ hD5, ?_⟩
    ·obtain⟨o,e,_⟩:=T.obj _ _ st5 b hb
     exact(I6'.pin (b,o) (ba _ (ba _ (g9 hb e)))).2.1
    ·rw [eX,ei,IP]
     have:(some ds[i]).toList.filter f= []:=by simp [ef]
     rw [this,bq]
     exact ci.dn.same (sm5.trans sm6)
   | true=>
   rw [if_pos rfl]
   have evw:=ev _ H6 [] (fun _=>0) _ H6' (fun v H'=>bT H6' H'/\Dn X.K (fun a=>M a\/a=s₂.heap.objs.size) H' ds[i] v) (Rp.next sm6) (fun v H' sm dn=>⟨sm,by
    rw [p3]at dn
    exact dn.less fun a ha=> .inl ha⟩) _ s6' I6'
   rw [p1,p2,p5,p6,env']at evw
   refine fg evw fun yv s7 ⟨v,H7,I7,r7,sm7',dn7⟩=> ?_
   have sm7:bT H6 H7:=sm6.trans sm7'
   have ap:=oX (X:=X') _ s7 _ H7 (.ref s₂.heap.objs.size) [v] (.ref s₂.heap.objs.size) [yv] (fun _ H8=>H8=upd H7 s₂.heap.objs.size (.lst (ys ++ [v]))) I7 rfl (.cons r7 .nil)
    ⟨_,ys,v,rfl,rfl,sm7 _ _ hD5,by rw [ci.dn.len]; exact jh (bE (List.length_filter_le _ _) (by rw [bu]; exact bE (vE _ _) hsz)) (by decide:(1000000:Nat) < sizeLine),rfl⟩
   rw [p1,p2,p5,p6]at ap
   refine fg ap fun _ s8 ⟨_,H8,I8,_,e8⟩=> ?_
   subst e8
   refine⟨ds.length - (i+1),by omega,i+1,ys ++ [v],_,_,rfl,hlt,I8.unpinned,⟨some y,by rw [eσ]; rfl⟩,
    T.keep _ _ _ st5 fun b hb o e=>(I8.pin (b,o) (ba _ (ba _ (g9 hb e)))).1,fun b hb=> ?_, ?_⟩
   ·obtain⟨o,e,_⟩:=T.obj _ _ st5 b hb
    exact(I8.pin (b,o) (ba _ (ba _ (g9 hb e)))).2.1
   ·refine⟨iz (sm15.trans sm7) hD,bO, ?_⟩
    have kp:p7 (fun a=>M a\/a=s₂.heap.objs.size) H7 (upd H7 s₂.heap.objs.size (.lst (ys ++ [v]))):=fun b o e n=>by
     by_cases hb:b=s₂.heap.objs.size
     ·subst hb
      rw [sm7 _ _ hD5]at e; cases e
      exact absurd (.inr rfl) (n _ rfl)
     ·rw [cD hb]; exact e
    rw [eX,ei,IP]
    have ef2:(some ds[i]).toList.filter f= [ds[i]]:=by simp [ef]
    rw [ef2]
    exact(cN.app (ci.dn.same (sm5.trans sm7)) (cN.one dn7)).keep kp
  ·have e:i=ds.length:=by omega
   subst e
   refine fg (done w2) fun r s4 ⟨hr',I5⟩=> ?_
   subst hr'
   obtain⟨o1,o2⟩:=out H s4 σ' I5
   obtain⟨m,hn,_⟩:=I5.loc
   rw [env']at hn
   refine hRR _ _ m s4 H ys o1 hn o2 hD ci.same ci.at_ ?_
   have:=ci.dn
   rw [dP]at this
   exact this
 exact codeAny_compStart_list (loop _ rfl) (T.self X.A 0 _ _ _ st4 (loop _ rfl))
theorem eJ.compI{ρ:fm}{c:Expr}{f:D->Bool}(ok:eY X N' js scope x cl)(hc:X.calm=true)(hnd:N'.Nodup)(hs:lE X ρ (.Name x px) iter ds)(hcs:zx ρ js cs)(hsz:ds.length<=1000000)
  (htst: ∀(C:Addr) (s₀:ai) (H₀:Hp) (fp:List Addr) (pins:List (Addr×Obj)) (i:Nat) (d:D),ds[i]? =some d->cU (jU X N' scope cl C s₀ H₀ fp pins) (kR d cs) c (f d))
  (helt: ∀(C:Addr) (s₀:ai) (H₀:Hp) (fp:List Addr) (pins:List (Addr×Obj)) (i:Nat) (d:D),ds[i]? =some d->aw (jU X N' scope cl C s₀ H₀ fp pins) (kR d cs) elt d)
  (hfi: ∀v,jz iter X.env v=pure v:=by intro _; rfl):eJ X ρ (.ListComp elt [⟨.Name x px,iter, [c],0⟩] scope pos) (ds.filter f):=fun M0 H0 γ α σ H Q R k pins s I=>by
 rw [eval_ListComp]
 refine Ao (use:=none) rfl hfi ok.Di ok.kind ok.names ?_
 have h:=hs M0 H0 γ α σ H (fun J H1=> ∃gs,bT H H1/\(∀p∈gs,Dn X.K (MM M0 ρ α) H1 p.1 p.2)/\Walk X.K J ds gs) R (fun J H1 gs s g w=>⟨gs,s,g,w⟩) pins s I
 refine fg h fun v s1 h1=>fg h1 fun itv s2 ⟨it,fp,tn,J,H1,e,I2,T,st,ff,gs,sm,hg,w⟩=> ?_
 subst e
 refine zj ok hc hnd I2 T st ff hg w hsz (hcs.ok R sm) (iZ R sm) (fun C s₀ H₀ i d=>htst C s₀ H₀ fp pins i d) (fun C s₀ H₀ i d=>helt C s₀ H₀ fp pins i d) fun D0 C m s1 H2 ys I1 hn fo hD sm1 ha dn=> ?_
 exact⟨m,hn,fun h' sb=>⟨.ref D0,H2,I1.turned (t':=s1.toks) (fun b o hb e=>sb.extBut b o hb e) fo.1 fo.2.1 fo.2.2.2.1 fo.2.2.2.2.1 fo.2.2.2.2.2,rfl,k D0 ys H1 H2 sm hD sm1 ha dn⟩⟩
end
section
variable {X:Cx}{ρ:fm}{M0:MP}{H0 H H':Hp}{γ:List (D×V)}{α:Nat->Addr}{σ:St}{En:Ends}{sts:List Stmt}{e:Expr}{d:D}{ds:List D}{pos pos':Pos}{i j:Nat}{x:Str}{a:Addr}{kv:pJ}
theorem dM.setF(B:dM X M0 H0 γ α ρ σ H i a kv)(hN:X.N.Nodup)(hj:X.N[j]? =some x)(hx:Loc X.env.scope x)(hl:j < ρ.length)(hji:j≠i)(h:eJ X (ρ.set i (.im (rC kv))) e ds)(hb: ∀d∈ds,D.bare 9 d)
  (k: ∀α v H',dM X M0 H0 γ α (ρ.set j (.mu ds)) (σ.set j (some v)) H' i a kv->oM X sts En (σ.set j (some v)) H')
  (hs:dh e (some (.Name x pos')) pos.line X.env=pure false:=by rfl)(hf:X.fn x=true\/X.env.scope.names.lookup x=some .local:=by first | exact .inl rfl | exact .inr rfl | assumption):oM X (.Assign [.Name x pos'] e pos::sts) En σ H:=
 (dS t_ f_).to ((rG hN hj hx iu hs hf).to (h M0 H0 γ α σ H _ B.view fun l xs H1 H' s n s' y z=>by
  have D1:=B.next s
  obtain⟨ys,ho⟩:=D1.obj
  have hla:l≠a:=fun q=>by rw [q,ho]at n; cases n
  have ho':=s' _ _ ho
  obtain⟨bs,q1,q2,q3⟩:=D1.ex
  refine k _ _ H' ⟨D1.r.set_mu hl (by unfold e7; rw [if_neg hla]; exact n) (oK s') (kr hla y) (cN.map1 (fun d hd v=>Dn.hideB ho' 9 (hb d hd)) z),by rw [eP hji.symm]; exact D1.un,by rw [eP hji.symm]; exact D1.at_,D1.nd,bs,q1,s' _ _ q2, ?_⟩
  refine cN.map1 (fun d hd v=> ?_) (q3.same (oK s'))
  obtain⟨x,_,rfl⟩:=bh.mp hd
  exact Dn.bare 9 (ll 7 _)))
end
end Z
namespace K
open PySem L2 Z
theorem JQ(t:pF):D.bare 9 (tD t):=fun d hd=>by
 have:d= .int t.1\/d= .int t.2.1\/d= .int t.2.2:=by simpa [tD]using hd
 rcases this with rfl | rfl | rfl <;> exact c_
def nb(f:eG)(rs:Rows):List Rows:=(lets f rs).map (mv rs)
def jm(f:eG)(g:Rows):pJ:=Ja (nb f) 160000 [(g,0)] 0
structure IS(f:eG)(g rs:Rows):Prop where
 gd:good f rs=true
 of:Of g.flatten g.length rs
theorem xQ{f:eG}{rs:Rows}{t:pF}(h:isLet f rs t=true):KY f rs t/\good f (mv rs t)=true:=by
 unfold isLet at h
 rw [bJ]at h
 exact⟨oS.mp h.1,h.2⟩
theorem rQ{f:eG}{rs:Rows}{t:pF}(ok:vV f):t∈lets f rs↔isLet f rs t=true:=HU (by have:=ok.st; omega) (by have:=ok.lf; omega)
theorem uK{f:eG}{rs r:Rows}(ok:vV f):r∈nb f rs↔ ∃t,isLet f rs t=true/\mv rs t=r:=by
 unfold nb
 rw [bh]
 exact⟨fun⟨t,h1,h2⟩=>⟨t,(rQ ok).mp h1,h2⟩,fun⟨t,h1,h2⟩=>⟨t,(rQ ok).mpr h1,h2⟩⟩
theorem Ig{f:eG}{g rs:Rows}(ok:vV f)(h:IS f g rs): ∀r∈nb f rs,IS f g r:=fun r hr=>by
 obtain⟨t,ht,rfl⟩:=(uK ok).mp hr
 obtain⟨hc,g2⟩:=xQ ht
 exact⟨g2,(B6 (g6 h.gd) hc).trans h.of.1,(HI rs t).trans h.of.2⟩
theorem CG{f:eG}{rs r:Rows}(ok:vV f)(hg:good f rs=true)(h:r∈nb f rs):rs∈nb f r:=by
 obtain⟨t,ht,rfl⟩:=(uK ok).mp h
 obtain⟨b1,b2⟩:=Hq hg ht
 exact(uK ok).mpr ⟨bk t,b1,b2⟩
structure pz(f:eG)(qs:fk)(g:Rows):Prop where
 s:gD f qs
 gd:good f g=true
 mw:g.flatten.length<=4
theorem pz.Dg{f:eG}{qs:fk}{g:Rows}(h:pz f qs g):IS f g g:=⟨h.gd,dB _,rfl⟩
theorem pz.le{f:eG}{qs:fk}{g:Rows}(h:pz f qs g){kv:pJ}(nd:(kv.map (·.1)).Nodup)(hi: ∀x∈kv,IS f g x.1):kv.length<=160000:=
 LM h.mw (by have:=g6 h.gd; have:=h.s.ok.st; omega) nd fun x hx=>(hi x hx).of
structure Ax(f:eG)(g:Rows):Prop where
 be:BE (nb f) g (jm f g)
 Dg: ∀x∈jm f g,IS f g x.1
 len:(jm f g).length<=160000
theorem pz.fin{f:eG}{qs:fk}{g:Rows}(h:pz f qs g):Ax f g:=by
 obtain⟨d,b,hp,hd⟩:=B9 (nb:=nb f) (g:=g) (P:=IS f g) (N:=160000) (fun k hk k'=>Ig h.s.ok hk k') (fun kv nd hi=>h.le nd hi) 160000 [(g,0)] 0 BI.start (fun x hx=>by rw [aN.mp hx]; exact h.Dg) (bN _) (ay _)
 exact⟨b.fin hd,hp,h.le b.nd hp⟩
structure Kl(f:eG)(g:Rows)(kv:pJ)(d:Nat):Prop where
 b:BI (nb f) g kv d
 Dg: ∀x∈kv,IS f g x.1
 le:d<=kv.length
 end_:Ja (nb f) (160000 - d) kv d=jm f g
theorem Kl.start{f:eG}{qs:fk}{g:Rows}(h:pz f qs g):Kl f g [(g,0)] 0:=⟨BI.start,fun x hx=>by rw [aN.mp hx]; exact h.Dg,bN _,rfl⟩
theorem Kl.step{f:eG}{qs:fk}{g:Rows}{kv:pJ}{d:Nat}(h:pz f qs g)(w:Kl f g kv d)(hd:d < kv.length):Kl f g (pI (nb f) kv d) (d+1)/\d < 160000:=by
 have l:=h.le w.b.nd w.Dg
 have p:=(wV (nb:=nb f) kv d).length_le
 refine⟨⟨w.b.step hd,wN (P:=IS f g) (fun k hk k'=>Ig h.s.ok hk k') w.Dg,by omega, ?_⟩,by omega⟩
 have e:=w.end_
 rw [show 160000 - d=160000 - (d+1)+1 by omega,Ja,if_pos hd]at e
 exact e
theorem Kl.done{f:eG}{g:Rows}{kv:pJ}{d:Nat}(w:Kl f g kv d)(hd: ¬d < kv.length):kv=jm f g:=by
 have e:=w.end_
 cases n:160000 - d with
 | zero=>rw [n]at e; exact e
 | succ n'=>rw [n,Ja,if_neg hd]at e; exact e
theorem Hr{f:eG}{kv:pJ}{d:Nat}{rs:Rows}{h:Int}(e:kv[d]? =some (rs,h)):pI (nb f) kv d=(nb f rs).foldl (visit h) kv:=by
 unfold pI
 rw [e]
theorem foldl_take_succ{α β:Type}(F:β->α->β)(b:β){l:List α}{n:Nat}{x:α}(h:l[n]? =some x):(l.take (n+1)).foldl F b=F ((l.take n).foldl F b) x:=by
 rw [eX,h,List.foldl_append]
 rfl
def intAt(i:Nat)(ρ:fm):Nat:=match ρ[i]? with
 | some (Sl.im (.int z))=>160000 - z.toNat
 | _=>0
section
variable {P:aq}{w:World}{K:Frag}{mg:Str->Option Value}{base:Heap}{CX:gF}{C:Addr}
theorem Co:bV ["floor","goal","above","reached","done","standing","lift","behind"] ["floor","goal"] (aE oq):=⟨rfl,rfl,rfl,by decide +kernel,rfl,by decide +kernel,by decide +kernel⟩
abbrev uX(P:aq)(w:World)(K:Frag)(mg:Str->Option Value)(base:Heap)(CX:gF)(C:Addr):Prop:=
 nq P w K mg base CX 7 "heights_above" (fun i:eG×fk×Rows=> [i7 C i.1 i.2.1,rT i.2.2]) (fun i=>pz i.1 i.2.1 i.2.2) (fun i=> .ok (rC (jm i.1 i.2.2)))
theorem HN{f:Addr}{fd:bj}(nx:NX CX)(B:Bm mg)(G1:xA P w K mg base CX C)(G2:rP P w K mg base CX)(F:lu K "heights_above" "heights_above" oq f fd)(hm:mg "heights_above"=some (.ref f))(hb:Binds K fd ["floor","goal"] []):uX P w K mg base CX C:=by
 refine J6 F Co hm hb (fun i=>rfl) fun cdv A outer s H E i M0 hp hr=>⟨_,rfl,fun σ R=> ?_⟩
 obtain⟨fl,qs,g⟩:=i
 have ho:pz fl qs g:=hp
 have px:=Co.nd
 have hu8:(A.deeper (iP "heights_above" (aE oq) s.heap.objs.size f cdv)).units+8 < cLine:=by have:=uS hr; omega
 change Rep K M0 H [] (fun _=>0) [.im (i7 C fl qs), .im (rT g), .un, .un, .un, .un, .un, .un] σ H at R
 change oM _ (aP oq) (ends K M0 H [] {N:=fun _=>rC (jm fl g)= .non,R:=fun d'=>d'=rC (jm fl g)}) σ H
 refine dM.start (i:=2) (rs:=g) (n:=0) hu8 R px rfl (.inl rfl) (gV rfl) (nm 1 rfl rfl) aw.int fun a H1 D1=> ?_
 change dM _ _ _ _ _ [.im (i7 C fl qs), .im (rT g), .un, .un, .un, .un, .un, .un] _ _ _ _ _ at D1
 refine dM.setF (j:=3) (ds:= [mY g]) D1 px rfl (.inl rfl) (gV rfl) (by decide) (eJ.lst (aY.cons (nm 1 rfl rfl) aY.nil)) (fun d hd=>by rw [aN.mp hd]; exact ll 7 _) fun α2 v2 H2 D2=> ?_
 refine dM.set (j:=4) (d:= .int 0) D2 px rfl (.inl rfl) (gV rfl) (by decide) aw.int c_ fun v3 H3 D3=> ?_
 refine(dS t_ f_).to (dM.while (fun ρ kv=> ∃(d:Nat) (a5 a6 a7:Sl),ρ= [.im (i7 C fl qs), .im (rT g), .un, .mu (kv.map fun x=>mY x.1), .im (.int d),a5,a6,a7]/\Kl fl g kv d) (fun ρ _=>intAt 4 ρ) cF D3 ⟨0,_,_,_,rfl,Kl.start ho⟩ ?_)
 rintro α ρ σ kv ⟨d,a5,a6,a7,rfl,wk⟩
 refine⟨_,cU.cI .lt (nm 4 rfl rfl) (aw.lenL rfl B.len (CB 3 rfl rfl)),fun h H D=> ?_,fun h H D=> ?_⟩
 ·rw [ae]at h
  have hd:d < kv.length:=by
   have:(d:Int) < kv.length:=by simpa using h
   omega
  obtain⟨wk2,hd2⟩:=wk.step ho hd
  obtain⟨rs,hh⟩: ∃rs:Rows, ∃h:Int,kv[d]? =some (rs,h):=⟨kv[d].1,kv[d].2,ah hd⟩
  obtain⟨ht,hk⟩:=hh
  rw [Hr hk]at wk2
  have hin:IS fl g rs:=wk.Dg _ (bg hk)
  have hgo:vT fl qs rs:=⟨ho.s,hin.gd⟩
  refine dM.set (j:=5) (d:=mY rs) D px rfl (.inl rfl) (gV rfl) (by decide) (aw.ixL (CB 3 rfl rfl) (nm 4 rfl rfl) (by
   rw [rF rfl (by rw [ae]; exact hd),bp]
   rw [ah hd]at hk
   rw [aH hk])) (ll 7 _) fun v4 H4 D4=> ?_
  refine(dS t_ f_).to (dM.for (t:=6) (ds:=(lets fl rs).map tD) (fun n ρ kv'=> ∃a6 a7:Sl,ρ= [.im (i7 C fl qs), .im (rT g), .un, .mu (kv'.map fun x=>mY x.1), .im (.int d), .im (mY rs),a6,a7]/\kv'=((nb fl rs).take n).foldl (visit ht) kv) cF rfl px rfl (.inl rfl) (by decide) D4
   (aw.call G1 hr (aX nx) rfl (fl,qs,rs) (aY.cons (nm 0 rfl rfl) (aY.cons (nm 5 rfl rfl) aY.nil)) hgo rfl) (fun d hd=>by obtain⟨t,_,rfl⟩:=bh.mp hd; exact JQ t) ⟨_,_,rfl,rfl⟩ (fun n ρ kv' ⟨_,_,e,_⟩=>by rw [e]; exact gV rfl) ?_ ?_)
  ·rintro γ' n dd α ρ σ H kv' hn ⟨b6,b7,rfl,ekv⟩ D
   rw [aA]at hn
   cases et:(lets fl rs)[n]? with
   | none=>rw [et]at hn; cases hn
   | some t=>
    rw [et]at hn
    cases hn
    have hl:=(rQ ho.s.ok).mp (bg et)
    obtain⟨hc,hg2⟩:=xQ hl
    have en:(nb fl rs)[n]? =some (mv rs t):=by unfold nb; rw [aA,et]; rfl
    have ekv2:=foldl_take_succ (visit ht) kv en
    rw [<-ekv]at ekv2
    have hpre:kv <+:kv':=by rw [ekv]; exact p8 ht _ kv
    have hin': ∀x∈kv',IS fl g x.1:=by
     rw [ekv]
     exact pX ht _ kv wk.Dg fun k hk=>Ig ho.s.ok hin k (ip hk)
    have hlen:=ho.le D.nd hin'
    have hrs:(rs,ht)∈kv':=hpre.subset (bg hk)
    refine dM.set (j:=7) (d:=mY (mv rs t)) D px rfl (.inl rfl) (gV rfl) (by decide) (aw.call G2 (hr.mono (by decide)) (aX nx) rfl (rs,t) (aY.cons (nm 5 rfl rfl) (aY.cons (nm 6 rfl rfl) aY.nil)) (hc.mvOk (g6 hgo.g) hgo.sm) rfl) (ll 7 _) fun v5 H5 D5=> ?_
    refine(tJ t_).to (dM.ite D5 (cU.notInDc (k:=mv rs t) hu8 D5.nd (nm 7 rfl rfl) (nm 2 rfl rfl)) (fun h2 H6 D6=> ?_) fun h2 H6 D6=> ?_)
    ·have hnew:mv rs t∉kv'.map (·.1):=by simpa using h2
     have ev:visit ht kv' (mv rs t)=kv' ++ [(mv rs t,ht+1)]:=if_neg hnew
     refine(dS t_ f_).to (dM.put (rs:=mv rs t) (n:=ht+1) hu8 D6 rfl (.inl rfl) (nm 7 rfl rfl) (aw.add (aw.dget (k:=rs) (n:=ht) hu8 D6.nd hrs (nm 2 rfl rfl) (nm 5 rfl rfl)) aw.int) hnew (by show kv'.length<=sizeLine; unfold sizeLine; omega) fun H7 D7=> ?_)
     refine(tJ t_).to (dM.append (j:=3) (d:=mY (mv rs t)) D7 rfl (.inl rfl) (by decide) rfl (by rw [ae]; omega) (nm 7 rfl rfl) (ll 7 _) (fun H8 D8=>⟨_,_,_,D8, .im (tD t), .im (mY (mv rs t)), ?_, ?_⟩) ⟨rfl,rfl,rfl,rfl⟩)
     ·rw [bC]; rfl
     ·rw [ekv2,ev]
    ·have hold:mv rs t∈kv'.map (·.1):=by simpa using h2
     have ev:visit ht kv' (mv rs t)=kv':=if_pos hold
     exact tH.to ⟨_,_,_,D6,_,_,rfl,by rw [ekv2,ev]⟩
  ·rintro α ρ σ H kv' ⟨b6,b7,rfl,ekv⟩ D
   rw [ae,show(lets fl rs).length=(nb fl rs).length from(ae ..).symm,dP]at ekv
   subst ekv
   refine dM.set (j:=4) (d:= .int ((d+1:Nat):Int)) D px rfl (.inl rfl) (gV rfl) (by decide) (aw.to (aw.add (nm 4 rfl rfl) aw.int) (by rw [Int.natCast_add]; rfl)) c_ fun v9 H9 D9=> ?_
   refine tH.to ⟨_,_,_,D9,⟨d+1,_,_,_,rfl,wk2⟩, ?_⟩
   show 160000 - ((d+1:Nat):Int).toNat < 160000 - (d:Int).toNat
   omega
 ·rw [ae]at h
  have hd: ¬d < kv.length:=by
   have: ¬(d:Int) < kv.length:=by simpa using h
   omega
  have e:=wk.done hd
  subst e
  exact WS.one (W1.ret (nm 2 rfl rfl) rfl) [] _ _ _ D.view
end
theorem se: ∀(a b:List Int),dU (D.pds (a.map .int)) (D.pds (b.map .int))=decide (a=b)
 | [], []=>rfl
 | [],_::_=>rfl
 | _::_, []=>rfl
 | x::a,y::b=>by
  show((x==y)&&dU (D.pds (a.map .int)) (D.pds (b.map .int)))=decide (x::a=y::b)
  rw [se a b]
  by_cases h:x=y
  ·subst h
   simp
  ·have:(x==y)=false:=beq_eq_false_iff_ne.mpr h
   rw [this,fu]
   symm
   apply decide_eq_false
   intro z
   exact h (List.cons.inj z).1
theorem qN(a b:List Int):D.eqv (.lst (a.map .int)) (.lst (b.map .int))=decide (a=b):=by
 rw [<-se]
 simp only [D.eqv,D.pd,jg]
theorem zT{a b:List Int}(h:n9 a=n9 b):a.Perm b:=(qS a).symm.trans (h▸qS b)
def qP(kv:pJ)(rs:Rows):Int:=match kv.find? fun x=>decide (x.1=rs)with
 | some x=>x.2
 | none=>0
section
variable {f:eG}{qs:fk}{g:Rows}
theorem Ax.ht(e:Ax f g){rs:Rows}{n:Int}(h:(rs,n)∈jm f g):qP (jm f g) rs=n:=by
 unfold qP
 cases q:(jm f g).find? fun x=>decide (x.1=rs)with
 | none=>
  have:=List.find?_eq_none.mp q _ h
  simp at this
 | some x=>
  have h1:=List.mem_of_find?_eq_some q
  have h2:=List.find?_some q
  obtain⟨k,m⟩:=x
  have h3:k=rs:=by simpa using h2
  subst h3
  exact e.be.uniq h1 h
theorem Ax.has(e:Ax f g){rs:Rows}(h:rs∈(jm f g).map (·.1)):(rs,qP (jm f g) rs)∈jm f g:=by
 obtain⟨x,hx,rfl⟩:=bh.mp h
 rw [e.ht (n:=x.2) hx]
 exact hx
theorem Ax.nb(e:Ax f g)(ok:vV f){rs:Rows}{n:Int}(h:(rs,n)∈jm f g){t:pF}(ht:isLet f rs t=true): ∃m,(mv rs t,m)∈jm f g/\m<=n+1/\n<=m+1:=by
 have h1:=(uK ok).mpr ⟨t,ht,rfl⟩
 obtain⟨m,hm,le⟩:=e.be.JW _ _ h _ h1
 obtain⟨n',hn,le2⟩:=e.be.JW _ _ hm _ (CG ok (e.Dg _ h).gd h1)
 exact⟨m,hm,le,by rw [e.be.uniq h hn]; exact le2⟩
theorem Ax.down(e:Ax f g)(ok:vV f){rs:Rows}{n:Int}(h:(rs,n)∈jm f g)(hn:0 < n): ∃t,isLet f rs t=true/\qP (jm f g) (mv rs t) < n:=by
 rcases e.be.par _ _ h with⟨_,h0⟩ | ⟨k,m,hk,hb,rfl⟩
 ·omega
 ·obtain⟨t,ht,q⟩:=(uK ok).mp (CG ok (e.Dg _ hk).gd hb)
  exact⟨t,ht,by rw [q,e.ht hk]; omega⟩
theorem Ax.below(e:Ax f g): ∀(n:Nat) {rs:Rows},(rs,(n:Int))∈jm f g-> ∀m:Nat,m<=n-> ∃r,(r,(m:Int))∈jm f g
 | n,rs,h,m,hm=>by
  by_cases q:m=n
  ·subst q; exact⟨rs,h⟩
  ·rcases e.be.par _ _ h with⟨_,h0⟩ | ⟨k,m',hk,hb,h1⟩
   ·omega
   ·have:m'=((n - 1:Nat):Int):=by omega
    subst this
    exact Ax.below e (n - 1) hk m (by omega)
theorem Ax.low(e:Ax f g){n:Nat}{rs:Rows}(h:(rs,(n:Int))∈jm f g):n < 160000:=by
 have sub: ∀x∈(bH (n+1)).map (fun(m:Nat)=>(m:Int)),x∈(jm f g).map (·.2):=fun x hx=>by
  obtain⟨m,hm,rfl⟩:=bh.mp hx
  obtain⟨r,hr⟩:=e.below n h m (by have:=gw.mp hm; omega)
  exact bh.mpr ⟨_,hr,rfl⟩
 have nd:((bH (n+1)).map (fun(m:Nat)=>(m:Int))).Nodup:=hV.mpr ((List.nodup_range (n:=n+1)).imp fun{a b} h q=>h (by omega))
 have:=Bc nd sub
 rw [ae,cg,ae]at this
 have:=e.len
 omega
end
def Ij(kv:pJ)(rs:Rows)(t:pF):Bool:=decide (qP kv (mv rs t) < qP kv rs)
def Nj(kv:pJ)(rs:Rows):D->Bool
 | .tup [.int a, .int b, .int n]=>Ij kv rs (a,b,n)
 | _=>false
def low(f:eG)(g rs:Rows):List pF:=(lets f rs).filter (Ij (jm f g) rs)
theorem Jm(kv:pJ)(rs:Rows)(l:List pF):(l.map tD).filter (Nj kv rs)=(l.filter (Ij kv rs)).map tD:=by
 rw [List.filter_map]
 rfl
def way(f:eG)(g:Rows):Nat->Rows->List pF
 | 0,_=> []
 | n+1,rs=>(low f g rs).headD (0,0,0)::way f g n (mv rs ((low f g rs).headD (0,0,0)))
theorem ym(f:eG)(g:Rows): ∀(n:Nat) (rs:Rows),(way f g n rs).length=n
 | 0,_=>rfl
 | n+1,rs=>by rw [way,aL,ym f g n]
structure BS(f:eG)(qs:fk)(g rs:Rows):Prop where
 o:pz f qs g
 m:rs∈(jm f g).map (·.1)
theorem FA{f:eG}{qs:fk}{g rs:Rows}{n:Nat}(o:pz f qs g)(h:(rs,((n+1:Nat):Int))∈jm f g): ∃t r,low f g rs=t::r/\isLet f rs t=true/\(mv rs t,(n:Int))∈jm f g:=by
 have e:=o.fin
 have ok:=o.s.ok
 obtain⟨t,ht,hlt⟩:=e.down ok h (by omega)
 have hmem:t∈low f g rs:=o7.mpr ⟨(rQ ok).mpr ht,by unfold Ij; rw [e.ht h]; exact decide_eq_true hlt⟩
 cases q:low f g rs with
 | nil=>rw [q]at hmem; cases hmem
 | cons t0 r=>
  have h0:t0∈low f g rs:=by rw [q]; exact .head _
  obtain⟨a1,a2⟩:=o7.mp h0
  have hl:=(rQ ok).mp a1
  obtain⟨m,hm,le1,le2⟩:=e.nb ok h hl
  unfold Ij at a2
  rw [e.ht hm,e.ht h]at a2
  have a3:=of_decide_eq_true a2
  have:m=(n:Int):=by omega
  subst this
  exact⟨t0,r,rfl,hl,hm⟩
section
variable {P:aq}{w:World}{K:Frag}{mg:Str->Option Value}{base:Heap}{CX:gF}{C CT:Addr}
theorem uE:bV ["standing","crates","stack"] ["standing"] (aE jo):=⟨rfl,rfl,rfl,by decide +kernel,rfl,by decide +kernel,by decide +kernel⟩
abbrev o5(P:aq)(w:World)(K:Frag)(mg:Str->Option Value)(base:Heap)(CX:gF):Prop:=
 nq P w K mg base CX 1 "crates_of" (fun rows:Rows=> [rT rows]) (fun rows=>rows.flatten.length < 64) (fun rows=> .ok (.lst ((n9 rows.flatten).map .int)))
theorem zW{f:Addr}{fd:bj}(B:Bm mg)(F:lu K "crates_of" "crates_of" jo f fd)(hm:mg "crates_of"=some (.ref f))(hb:Binds K fd ["standing"] []):o5 P w K mg base CX:=by
 refine fD F uE hm hb (fun i=>rfl) fun cdv A outer s H E rows M0 hp hr=>⟨_,rfl, ?_⟩
 have hp':rows.flatten.length < 64:=hp
 have px:=uE.nd
 have hlen:(bQ true rows).length=rows.length:=ae ..
 change WS _ M0 H (aP jo) [.im (rT rows), .un, .un] _
 refine WS.cons (W1.setF (i:=1) px rfl (.inl rfl) (gV rfl) (eJ.lst aY.nil) ?_)
 refine WS.cons (W1.for (ds:=bQ true rows) (fun i ρ=> ∃a,ρ= [.im (rT rows), .mu ((rows.take i).flatten.map .int),a]) cF rfl (lE.tup (nm 0 rfl rfl)) ⟨_,by rw [il]; rfl⟩ ?_ ?_)
 ·rintro i d ρ hd ⟨a,rfl⟩
  obtain⟨r,hr',rfl⟩:=iQ hd
  have l1:=jJ rows i
  have l2:=kZ (bg hr')
  refine⟨_,Cd.name (i:=2) px rfl (.inl rfl) (gV rfl), ?_⟩
  refine WS.one (W1.extend (i:=1) (fs:=r.map .int) rfl (.inl rfl) rfl (nm 2 rfl rfl) rfl (by rw [ae,ae]; omega) ?_ ⟨rfl,rfl,rfl,rfl⟩)
  dsimp only
  rw [mE hr',bC]
  exact⟨_,rfl⟩
 rintro ρ ⟨a,rfl⟩
 rw [hlen,dP]
 exact WS.one (W1.ret (eJ.toD (eJ.sortedI rfl B.sorted (CB 1 rfl rfl) hp')) rfl)
theorem DL:bV ["standing"] ["standing"] (aE jL):=⟨rfl,rfl,rfl,by decide +kernel,rfl,by decide +kernel,by decide +kernel⟩
abbrev ou(P:aq)(w:World)(K:Frag)(mg:Str->Option Value)(base:Heap)(CT:Addr):Prop:=
 nq P w K mg base (g8 P w) 2 "refuse_too_many" (fun rows:Rows=> [rT rows]) (fun rows=>rows.flatten.length < 64) (fun rows=>if rows.flatten.length<=4 then .ok .non else .error CT)
theorem AX{f:Addr}{fd:bj}(er:yU "TooMany" CT mg base)(hmc: ∃t,mg "MOST_CRATES"=some (.int 4 t))(B:Bm mg)(G:o5 P w K mg base (g8 P w))(F:lu K "refuse_too_many" "refuse_too_many" jL f fd)(hm:mg "refuse_too_many"=some (.ref f))(hb:Binds K fd ["standing"] []):ou P w K mg base CT:=by
 refine oY F DL hm hb (fun i=>rfl) fun cdv A outer s H E rows M0 hp hr=> ?_
 have hp':rows.flatten.length < 64:=hp
 have nx:NX (g8 P w):=lG
 by_cases hg:rows.flatten.length<=4
 ·refine .inl ⟨.non,if_pos hg, ?_⟩
  change WS _ M0 H (aP jL) [.im (rT rows)] {N:=fun _=>D.non= .non,R:=fun d'=>d'= .non}
  refine WS.one (W1.ite (cU.cI .gt (aw.lenL rfl B.len (aw.r (aw.call G hr (aX nx) rfl rows (aY.cons (nm 0 rfl rfl) aY.nil) hp' rfl))) (uI hmc rfl)) (fun h=> ?_) fun h=>WS.nil rfl)
  rw [ae,qG]at h
  have:=of_decide_eq_true h
  omega
 ·refine .inr ⟨CT,if_neg hg, ?_⟩
  change fQ _ [.im (rT rows)] E (aP jL) CT
  refine fQ.here (vX.ite (t:=true) (cU.to (cU.cI .gt (aw.lenL rfl B.len (aw.r (aw.call G hr (aX nx) rfl rows (aY.cons (nm 0 rfl rfl) aY.nil) hp' rfl))) (uI hmc rfl)) ?_) (fun _=>fQ.here (vX.raise er rfl aw.str)) fun h=>by cases h)
  rw [ae,qG]
  exact decide_eq_true (by omega)
theorem Kv:bV ["floor","standing","above"] ["floor","standing","above"] (aE ot):=⟨rfl,rfl,rfl,by decide +kernel,rfl,by decide +kernel,by decide +kernel⟩
abbrev AN(P:aq)(w:World)(K:Frag)(mg:Str->Option Value)(base:Heap)(CX:gF)(C:Addr):Prop:=
 nq P w K mg base CX 7 "lowering_lifts" (fun i:eG×fk×Rows×Rows=> [i7 C i.1 i.2.1,rT i.2.2.2,rC (jm i.1 i.2.2.1)]) (fun i=>BS i.1 i.2.1 i.2.2.1 i.2.2.2) (fun i=> .ok (.lst ((low i.1 i.2.2.1 i.2.2.2).map tD)))
theorem HK{f:Addr}{fd:bj}(nx:NX CX)(B:Bm mg)(G1:xA P w K mg base CX C)(G2:rP P w K mg base CX)(F:lu K "lowering_lifts" "lowering_lifts" ot f fd)(hm:mg "lowering_lifts"=some (.ref f))(hb:Binds K fd ["floor","standing","above"] []):AN P w K mg base CX C:=by
 refine fD F Kv hm hb (fun i=>rfl) fun cdv A outer s H E i M0 hp hr=>⟨_,rfl, ?_⟩
 obtain⟨fl,qs,g,rs⟩:=i
 obtain⟨o,hmem⟩:=(hp:BS fl qs g rs)
 have e:=o.fin
 have hrs:=e.has hmem
 have hgo:vT fl qs rs:=⟨o.s,(e.Dg _ hrs).gd⟩
 have hu8:(A.deeper (iP "lowering_lifts" (aE ot) s.heap.objs.size f cdv)).units+8 < cLine:=by have:=uS hr; omega
 have lf:1<=fl.lf/\fl.lf<=3:=o.s.ok.lf
 have st:2<=fl.st/\fl.st<=4:=o.s.ok.st
 have hl1:=xG fl rs fl.st.toNat
 have b1:fl.lf.toNat * fl.st.toNat<=3 * 4:=qv (by omega) (by omega)
 have b2:fl.lf.toNat * fl.st.toNat * fl.st.toNat<=3 * 4 * 4:=qv b1 (by omega)
 have hlen:(lets fl rs).length<=48:=bE hl1 b2
 change WS _ M0 H (aP ot) [.im (i7 C fl qs), .im (rT rs), .im (rC (jm fl g))] {N:=fun _=>D.lst ((low fl g rs).map tD)= .non,R:=fun d'=>d'= .lst ((low fl g rs).map tD)}
 refine WS.one (W1.ret (aw.to (eJ.toD (eJ.compI (ds:=(lets fl rs).map tD) (f:=Nj (jm fl g) rs) (cs:= [rC (jm fl g),mY rs]) (N':= ["lift","above","standing"]) (js:= [2,1])
  (eY.cap2 (pre:= [(".0", .local),("lift", .local),("moved", .globalImplicit)]) (mid:= []) (post:= []) (rn:= [(".0", .local),("lift", .local),("moved", .globalImplicit),("above", .cell),("standing", .cell)]) rfl (by decide +kernel) (by decide +kernel) (by decide +kernel) rfl rfl (by decide +kernel) (by decide +kernel) rfl (by decide +kernel) rfl rfl rfl rfl rfl rfl rfl rfl (by decide +kernel)) rfl (by decide +kernel)
  (lE.list (aw.call G1 hr (aX nx) rfl (fl,qs,rs) (aY.cons (nm 0 rfl rfl) (aY.cons (nm 1 rfl rfl) aY.nil)) hgo rfl)) (Ni rfl rfl) (by rw [ae]; omega) ?_ ?_)) (d':= .lst ((low fl g rs).map tD)) (by rw [Jm]; rfl)) rfl)
 ·intro C s₀ H₀ fp pins i d h1
  rw [aA]at h1
  cases et:(lets fl rs)[i]? with
  | none=>rw [et]at h1; cases h1
  | some t=>
   rw [et]at h1
   cases h1
   have hl:=(rQ o.s.ok).mp (bg et)
   obtain⟨hc,hg2⟩:=xQ hl
   obtain⟨m,hm,_,_⟩:=e.nb o.s.ok hrs hl
   refine cU.to (cU.cI .lt (aw.dget (k:=mv rs t) hu8 e.be.nd hm (nm 1 rfl rfl) (aw.call G2 (hr.mono (by decide)) (aX nx) rfl (rs,t) (aY.cons (nm 2 rfl rfl) (aY.cons (nm 0 rfl rfl) aY.nil)) (hc.mvOk (g6 hgo.g) hgo.sm) rfl)) (aw.dget (k:=rs) hu8 e.be.nd hrs (nm 1 rfl rfl) (nm 2 rfl rfl))) ?_
   show decide (m < qP (jm fl g) rs)=decide (qP (jm fl g) (mv rs t) < qP (jm fl g) rs)
   rw [e.ht hm]
 ·intro C s₀ H₀ fp pins i d h1
  exact nm 0 rfl rfl
theorem K5:bV ["floor","start","above","way","standing","lift"] ["floor","start","above"] (aE zy):=⟨rfl,rfl,rfl,by decide +kernel,rfl,by decide +kernel,by decide +kernel⟩
abbrev Ll(P:aq)(w:World)(K:Frag)(mg:Str->Option Value)(base:Heap)(CX:gF)(C:Addr):Prop:=
 nq P w K mg base CX 8 "way_down" (fun i:eG×fk×Rows×Rows=> [i7 C i.1 i.2.1,rT i.2.2.2,rC (jm i.1 i.2.2.1)]) (fun i=>BS i.1 i.2.1 i.2.2.1 i.2.2.2) (fun i=> .ok (.lst ((way i.1 i.2.2.1 (qP (jm i.1 i.2.2.1) i.2.2.2).toNat i.2.2.2).map tD)))
theorem LX{f:Addr}{fd:bj}(nx:NX CX)(B:Bm mg)(G1:AN P w K mg base CX C)(G2:rP P w K mg base CX)(F:lu K "way_down" "way_down" zy f fd)(hm:mg "way_down"=some (.ref f))(hb:Binds K fd ["floor","start","above"] []):Ll P w K mg base CX C:=by
 refine fD F K5 hm hb (fun i=>rfl) fun cdv A outer s H E i M0 hp hr=>⟨_,rfl, ?_⟩
 obtain⟨fl,qs,g,rs⟩:=i
 obtain⟨o,hmem⟩:=(hp:BS fl qs g rs)
 have e:=o.fin
 have hrs:=e.has hmem
 have hn0:=e.be.nn _ _ hrs
 have px:=K5.nd
 have hu8:(A.deeper (iP "way_down" (aE zy) s.heap.objs.size f cdv)).units+8 < cLine:=by have:=uS hr; omega
 change WS _ M0 H (aP zy) [.im (i7 C fl qs), .im (rT rs), .im (rC (jm fl g)), .un, .un, .un] {N:=fun _=>D.lst ((way fl g (qP (jm fl g) rs).toNat rs).map tD)= .non,R:=fun d'=>d'= .lst ((way fl g (qP (jm fl g) rs).toNat rs).map tD)}
 generalize qP (jm fl g) rs=z at hrs hn0 ⊢
 obtain⟨N,rfl⟩: ∃N:Nat,z=(N:Int):=⟨z.toNat,by omega⟩
 rw [cW]
 have hN:=e.low hrs
 refine WS.cons (W1.setF (i:=3) px rfl (.inl rfl) (gV rfl) (eJ.lst aY.nil) ?_)
 refine WS.cons (W1.set (i:=4) px rfl (.inl rfl) (gV rfl) (nm 1 rfl rfl) ?_)
 refine WS.cons (W1.while (fun ρ=> ∃(ws:List pF) (r:Rows) (n:Nat) (a:Sl),ρ= [.im (i7 C fl qs), .im (rT rs), .im (rC (jm fl g)), .mu (ws.map tD), .im (rT r),a]/\(r,(n:Int))∈jm fl g/\ws ++ way fl g n r=way fl g N rs) (fun ρ=>N - KO 3 ρ) cF ⟨[],rs,N,_,rfl,hrs,rfl⟩ ?_)
 rintro ρ ⟨ws,r,n,a,rfl,hr1,hw⟩
 have hl:ws.length+n=N:=by
  have:=congrArg mT hw
  rw [ao,ym,ym]at this
  exact this
 refine⟨_,cU.cI .gt (aw.dget (k:=r) hu8 e.be.nd hr1 (nm 2 rfl rfl) (nm 4 rfl rfl)) aw.int,fun h=> ?_,fun h=> ?_⟩
 ·have h0:=of_decide_eq_true h
  obtain⟨m,rfl⟩: ∃m,n=m+1:=⟨n - 1,by omega⟩
  obtain⟨t,rest,q1,q2,q3⟩:=FA o hr1
  obtain⟨hc,hg2⟩:=xQ q2
  have hgo:vT fl qs r:=⟨o.s,(e.Dg _ hr1).gd⟩
  refine WS.cons (W1.set (i:=5) px rfl (.inl rfl) (gV rfl) (aw.ixL (d:=tD t) (aw.r (aw.call G1 hr (aX nx) rfl (fl,qs,g,r) (aY.cons (nm 0 rfl rfl) (aY.cons (nm 4 rfl rfl) (aY.cons (nm 2 rfl rfl) aY.nil))) ⟨o,bh.mpr ⟨_,hr1,rfl⟩⟩ rfl)) aw.int (by rw [q1]; exact(rF (xs:=tD t::rest.map tD) (k:=0) (j:=0) rfl (by simp)).trans rfl)) ?_)
  refine WS.cons (W1.append (i:=3) rfl (.inl rfl) rfl (nm 5 rfl rfl) (by rw [ae]; omega) ?_ ⟨rfl,rfl,rfl,rfl⟩)
  refine WS.one (W1.set (i:=4) px rfl (.inl rfl) (gV rfl) (aw.call G2 (hr.mono (by decide)) (aX nx) rfl (r,t) (aY.cons (nm 4 rfl rfl) (aY.cons (nm 5 rfl rfl) aY.nil)) (hc.mvOk (g6 hgo.g) hgo.sm) rfl) ?_)
  refine⟨⟨ws ++ [t],mv r t,m, .im (tD t),by rw [bC]; rfl,q3, ?_⟩, ?_⟩
  ·rw [<-hw,way,q1,aV]
   rfl
  ·show N - ((ws.map tD) ++ [tD t]).length < N - (ws.map tD).length
   rw [ao,ae,fz]
   omega
 ·have h0:=of_decide_eq_false h
  have:n=0:=by omega
  subst this
  have e2:ws=way fl g N rs:=by rw [<-hw,way,bq]
  subst e2
  exact WS.freeze (i:=3) rfl (WS.one (W1.ret (nm 3 rfl rfl) rfl))
end
theorem AR{P:aq}{w:World}{K:Frag}{mg:Str->Option Value}{base:Heap}{C CS:Addr}(G:yl P w K mg base C CS):xA P w K mg base (g8 P w) C:=yN G fun i h=>⟨⟨h.s,h.sm⟩,if_pos h.g⟩
def z8(kv:pJ):D:= .lst ((uM nu (kv.map (·.1))).map mY)
def yg(kv:pJ):D:= .lst ((uM rm kv).map N_)
def Ac(CS CT:Addr)(f:eG)(rows:Rows)(d:D):Except Addr D:=if good f rows then(if rows.flatten.length<=4 then .ok d else .error CT)else .error CS
def uq(CS CO CT:Addr)(f:eG)(start goal:Rows):Except Addr D:=
 if good f start then
  if good f goal then
   if start.flatten.length<=4 then
    if n9 start.flatten=n9 goal.flatten then
     if start∈(jm f goal).map (·.1)then .ok (.tup [.str "plan", .lst ((way f goal (qP (jm f goal) start).toNat start).map tD)])
     else .ok (.tup [.str "shut",z8 (jm f start)])
    else .error CO
   else .error CT
  else .error CS
 else .error CS
theorem Ax.one{f:eG}{g:Rows}(e:Ax f g)(ok:vV f): ∀x∈jm f g,x.1.length=f.st.toNat:=fun x hx=>by have:=g6 (e.Dg x hx).gd; omega
section
variable {P:aq}{w:World}{K:Frag}{mg:Str->Option Value}{base:Heap}{C CS CO CT:Addr}
theorem oi{fl:eG}{qs:fk}{rows:Rows}(hS:gD fl qs)(hg:good fl rows=true):rows.flatten.length < 64:=by
 have:=(pW hg hS.ok.st.2 hS.ok.ht.2).1
 omega
theorem FL:bV ["floor","standing"] ["floor","standing"] (aE jI):=⟨rfl,rfl,rfl,by decide +kernel,rfl,by decide +kernel,by decide +kernel⟩
abbrev xI(P:aq)(w:World)(K:Frag)(mg:Str->Option Value)(base:Heap)(C CS CT:Addr):Prop:=
 nq P w K mg base (g8 P w) 8 "come_to" (fun i:eG×fk×Rows=> [i7 C i.1 i.2.1,rT i.2.2]) (fun i=>gD i.1 i.2.1/\Small i.2.2) (fun i=>Ac CS CT i.1 i.2.2 (z8 (jm i.1 i.2.2)))
theorem Dc{f:Addr}{fd:bj}(B:Bm mg)(G1:ku P w K mg base C CS)(G2:ou P w K mg base CT)(G3:uX P w K mg base (g8 P w) C)(F:lu K "come_to" "come_to" jI f fd)(hm:mg "come_to"=some (.ref f))(hb:Binds K fd ["floor","standing"] []):xI P w K mg base C CS CT:=by
 refine oY F FL hm hb (fun i=>rfl) fun cdv A outer s H E i M0 hp hr=> ?_
 obtain⟨fl,qs,rows⟩:=i
 obtain⟨hS,sm⟩:gD fl qs/\Small rows:=hp
 have nx:NX (g8 P w):=lG
 have hu8:(A.deeper (iP "come_to" (aE jI) s.heap.objs.size f cdv)).units+8 < cLine:=by have:=uS hr; omega
 have st:2<=fl.st/\fl.st<=4:=hS.ok.st
 by_cases hg:good fl rows=true
 ·by_cases h4:rows.flatten.length<=4
  ·refine .inl ⟨_,(if_pos hg).trans (if_pos h4), ?_⟩
   have o:pz fl qs rows:=⟨hS,hg,h4⟩
   have e:=o.fin
   change WS _ M0 H (aP jI) [.im (i7 C fl qs), .im (rT rows)] {N:=fun _=>z8 (jm fl rows)= .non,R:=fun d'=>d'=z8 (jm fl rows)}
   refine WS.cons (W1.expr (aw.call G1 (hr.mono (by decide)) (aX nx) rfl (fl,qs,rows) (aY.cons (nm 0 rfl rfl) (aY.cons (nm 1 rfl rfl) aY.nil)) ⟨hS,sm⟩ (if_pos hg)) ?_)
   refine WS.cons (W1.expr (aw.call G2 (hr.mono (by decide)) (aX nx) rfl rows (aY.cons (nm 1 rfl rfl) aY.nil) (oi hS hg) (if_pos h4)) ?_)
   exact WS.one (W1.ret (eJ.toD (eJ.sortedDc (m:=fl.st.toNat) hr.hd hu8 e.be.nd (e.one hS.ok) (by omega) (by have:=e.len; unfold sizeLine; omega) rfl B.sorted (aw.call G3 hr (aX nx) rfl (fl,qs,rows) (aY.cons (nm 0 rfl rfl) (aY.cons (nm 1 rfl rfl) aY.nil)) o rfl))) rfl)
  ·refine .inr ⟨CT,(if_pos hg).trans (if_neg h4), ?_⟩
   change fQ _ [.im (i7 C fl qs), .im (rT rows)] E (aP jI) CT
   refine fQ.expr (aw.call G1 (hr.mono (by decide)) (aX nx) rfl (fl,qs,rows) (aY.cons (nm 0 rfl rfl) (aY.cons (nm 1 rfl rfl) aY.nil)) ⟨hS,sm⟩ (if_pos hg)) ?_
   exact fQ.here (vX.expr (Ie.call (i:=rows) G2 (hr.mono (by decide)) lj rfl (aY.cons (nm 1 rfl rfl) aY.nil) (oi hS hg) (if_neg h4)))
 ·refine .inr ⟨CS,if_neg hg, ?_⟩
  change fQ _ [.im (i7 C fl qs), .im (rT rows)] E (aP jI) CS
  exact fQ.here (vX.expr (Ie.call (i:=(fl,qs,rows)) G1 (hr.mono (by decide)) lj rfl (aY.cons (nm 0 rfl rfl) (aY.cons (nm 1 rfl rfl) aY.nil)) ⟨hS,sm⟩ (if_neg hg)))
theorem Df:bV ["floor","goal"] ["floor","goal"] (aE iA):=⟨rfl,rfl,rfl,by decide +kernel,rfl,by decide +kernel,by decide +kernel⟩
abbrev uT(P:aq)(w:World)(K:Frag)(mg:Str->Option Value)(base:Heap)(C CS CT:Addr):Prop:=
 nq P w K mg base (g8 P w) 8 "heights" (fun i:eG×fk×Rows=> [i7 C i.1 i.2.1,rT i.2.2]) (fun i=>gD i.1 i.2.1/\Small i.2.2) (fun i=>Ac CS CT i.1 i.2.2 (yg (jm i.1 i.2.2)))
theorem Bf{f:Addr}{fd:bj}(B:Bm mg)(G1:ku P w K mg base C CS)(G2:ou P w K mg base CT)(G3:uX P w K mg base (g8 P w) C)(F:lu K "heights" "heights" iA f fd)(hm:mg "heights"=some (.ref f))(hb:Binds K fd ["floor","goal"] []):uT P w K mg base C CS CT:=by
 refine oY F Df hm hb (fun i=>rfl) fun cdv A outer s H E i M0 hp hr=> ?_
 obtain⟨fl,qs,rows⟩:=i
 obtain⟨hS,sm⟩:gD fl qs/\Small rows:=hp
 have nx:NX (g8 P w):=lG
 have hu8:(A.deeper (iP "heights" (aE iA) s.heap.objs.size f cdv)).units+8 < cLine:=by have:=uS hr; omega
 by_cases hg:good fl rows=true
 ·by_cases h4:rows.flatten.length<=4
  ·refine .inl ⟨_,(if_pos hg).trans (if_pos h4), ?_⟩
   have o:pz fl qs rows:=⟨hS,hg,h4⟩
   have e:=o.fin
   change WS _ M0 H (aP iA) [.im (i7 C fl qs), .im (rT rows)] {N:=fun _=>yg (jm fl rows)= .non,R:=fun d'=>d'=yg (jm fl rows)}
   refine WS.cons (W1.expr (aw.call G1 (hr.mono (by decide)) (aX nx) rfl (fl,qs,rows) (aY.cons (nm 0 rfl rfl) (aY.cons (nm 1 rfl rfl) aY.nil)) ⟨hS,sm⟩ (if_pos hg)) ?_)
   refine WS.cons (W1.expr (aw.call G2 (hr.mono (by decide)) (aX nx) rfl rows (aY.cons (nm 1 rfl rfl) aY.nil) (oi hS hg) (if_pos h4)) ?_)
   exact WS.one (W1.ret (eJ.toD (eJ.sortedIt hr.hd hu8 e.be.nd (by have:=e.len; unfold sizeLine; omega) rfl B.sorted (aw.call G3 hr (aX nx) rfl (fl,qs,rows) (aY.cons (nm 0 rfl rfl) (aY.cons (nm 1 rfl rfl) aY.nil)) o rfl))) rfl)
  ·refine .inr ⟨CT,(if_pos hg).trans (if_neg h4), ?_⟩
   change fQ _ [.im (i7 C fl qs), .im (rT rows)] E (aP iA) CT
   refine fQ.expr (aw.call G1 (hr.mono (by decide)) (aX nx) rfl (fl,qs,rows) (aY.cons (nm 0 rfl rfl) (aY.cons (nm 1 rfl rfl) aY.nil)) ⟨hS,sm⟩ (if_pos hg)) ?_
   exact fQ.here (vX.expr (Ie.call (i:=rows) G2 (hr.mono (by decide)) lj rfl (aY.cons (nm 1 rfl rfl) aY.nil) (oi hS hg) (if_neg h4)))
 ·refine .inr ⟨CS,if_neg hg, ?_⟩
  change fQ _ [.im (i7 C fl qs), .im (rT rows)] E (aP iA) CS
  exact fQ.here (vX.expr (Ie.call (i:=(fl,qs,rows)) G1 (hr.mono (by decide)) lj rfl (aY.cons (nm 0 rfl rfl) (aY.cons (nm 1 rfl rfl) aY.nil)) ⟨hS,sm⟩ (if_neg hg)))
theorem F_:bV ["floor","start","goal","above"] ["floor","start","goal"] (aE ky):=⟨rfl,rfl,rfl,by decide +kernel,rfl,by decide +kernel,by decide +kernel⟩
structure xP(f:eG)(qs:fk)(start goal:Rows):Prop where
 s:gD f qs
 a:Small start
 b:Small goal
abbrev Fp(P:aq)(w:World)(K:Frag)(mg:Str->Option Value)(base:Heap)(C CS CO CT:Addr):Prop:=
 nq P w K mg base (g8 P w) 9 "plan" (fun i:eG×fk×Rows×Rows=> [i7 C i.1 i.2.1,rT i.2.2.1,rT i.2.2.2]) (fun i=>xP i.1 i.2.1 i.2.2.1 i.2.2.2) (fun i=>uq CS CO CT i.1 i.2.2.1 i.2.2.2)
theorem Kt{f:Addr}{fd:bj}(er:yU "OtherCrates" CO mg base)(B:Bm mg)(G1:ku P w K mg base C CS)(G2:ou P w K mg base CT)(G3:uX P w K mg base (g8 P w) C)(G4:o5 P w K mg base (g8 P w))(G5:Ll P w K mg base (g8 P w) C)(F:lu K "plan" "plan" ky f fd)(hm:mg "plan"=some (.ref f))(hb:Binds K fd ["floor","start","goal"] []):Fp P w K mg base C CS CO CT:=by
 refine oY F F_ hm hb (fun i=>rfl) fun cdv A outer s H E i M0 hp hr=> ?_
 obtain⟨fl,qs,start,goal⟩:=i
 obtain⟨hS,sa,sb⟩:xP fl qs start goal:=hp
 have nx:NX (g8 P w):=lG
 have px:=F_.nd
 have hu8:(A.deeper (iP "plan" (aE ky) s.heap.objs.size f cdv)).units+8 < cLine:=by have:=uS hr; omega
 have hu4:=IW (uS hr)
 have st:2<=fl.st/\fl.st<=4:=hS.ok.st
 show(∃d,uq CS CO CT fl start goal= .ok d/\_)\/ ∃C',uq CS CO CT fl start goal= .error C'/\_
 unfold uq
 by_cases hg1:good fl start=true
 ·by_cases hg2:good fl goal=true
  ·by_cases h4:start.flatten.length<=4
   ·by_cases hc:n9 start.flatten=n9 goal.flatten
    ·rw [if_pos hg1,if_pos hg2,if_pos h4,if_pos hc]
     have o1:pz fl qs start:=⟨hS,hg1,h4⟩
     have o2:pz fl qs goal:=⟨hS,hg2,by rw [<-(zT hc).length_eq]; exact h4⟩
     have e1:=o1.fin
     have e2:=o2.fin
     refine .inl ?_
     have all: ∀{Q:Z.qD},WS (zQ P w K mg base ["floor","start","goal","above"] "plan" (aE ky) f cdv A outer s H E).nox M0 H ((aP ky).drop 5) [.im (i7 C fl qs), .im (rT start), .im (rT goal), .im (rC (jm fl goal))] Q->WS (zQ P w K mg base ["floor","start","goal","above"] "plan" (aE ky) f cdv A outer s H E).nox M0 H (aP ky) [.im (i7 C fl qs), .im (rT start), .im (rT goal), .un] Q:=fun{Q} k=>by
      refine WS.cons (W1.expr (aw.call G1 (hr.mono (by decide)) (aX nx) rfl (fl,qs,start) (aY.cons (nm 0 rfl rfl) (aY.cons (nm 1 rfl rfl) aY.nil)) ⟨hS,sa⟩ (if_pos hg1)) ?_)
      refine WS.cons (W1.expr (aw.call G1 (hr.mono (by decide)) (aX nx) rfl (fl,qs,goal) (aY.cons (nm 0 rfl rfl) (aY.cons (nm 2 rfl rfl) aY.nil)) ⟨hS,sb⟩ (if_pos hg2)) ?_)
      refine WS.cons (W1.expr (aw.call G2 (hr.mono (by decide)) (aX nx) rfl start (aY.cons (nm 1 rfl rfl) aY.nil) (oi hS hg1) (if_pos h4)) ?_)
      refine WS.cons (W1.ite (cU.ne hu4 (aw.r (aw.call G4 (hr.mono (by decide)) (aX nx) rfl start (aY.cons (nm 1 rfl rfl) aY.nil) (oi hS hg1) rfl)) (aw.r (aw.call G4 (hr.mono (by decide)) (aX nx) rfl goal (aY.cons (nm 2 rfl rfl) aY.nil) (oi hS hg2) rfl)) (oN 59 _) (oN 59 _)) (fun h=> ?_) fun h=>WS.nil ?_)
      ·rw [qN,decide_eq_true hc]at h
       cases h
      ·exact WS.cons (W1.set (i:=3) px rfl (.inl rfl) (gV rfl) (aw.call G3 (hr.mono (by decide)) (aX nx) rfl (fl,qs,goal) (aY.cons (nm 0 rfl rfl) (aY.cons (nm 2 rfl rfl) aY.nil)) o2 rfl) k)
     by_cases hm:start∈(jm fl goal).map (·.1)
     ·refine⟨_,if_pos hm,all ?_⟩
      refine WS.cons (W1.ite (cU.notInDc (k:=start) hu8 e2.be.nd (nm 1 rfl rfl) (nm 3 rfl rfl)) (fun h=> ?_) fun h=>WS.nil ?_)
      ·rw [decide_eq_true hm]at h
       cases h
      ·exact WS.one (W1.ret (aw.tup (aY.cons aw.str (aY.cons (aw.call G5 hr (aX nx) rfl (fl,qs,goal,start) (aY.cons (nm 0 rfl rfl) (aY.cons (nm 1 rfl rfl) (aY.cons (nm 3 rfl rfl) aY.nil))) ⟨o2,hm⟩ rfl) aY.nil))) rfl)
     ·refine⟨_,if_neg hm,all ?_⟩
      refine WS.cons (W1.ite (cU.notInDc (k:=start) hu8 e2.be.nd (nm 1 rfl rfl) (nm 3 rfl rfl)) (fun h=> ?_) fun h=>WS.nil ?_)
      ·exact WS.one (W1.ret (aw.tup (aY.cons aw.str (aY.cons (eJ.toD (eJ.sortedDc (m:=fl.st.toNat) hr.hd hu8 e1.be.nd (e1.one hS.ok) (by omega) (by have:=e1.len; unfold sizeLine; omega) rfl B.sorted (aw.call G3 (hr.mono (by decide)) (aX nx) rfl (fl,qs,start) (aY.cons (nm 0 rfl rfl) (aY.cons (nm 1 rfl rfl) aY.nil)) o1 rfl))) aY.nil))) rfl)
      ·rw [decide_eq_false hm]at h
       cases h
    ·rw [if_pos hg1,if_pos hg2,if_pos h4,if_neg hc]
     refine .inr ⟨CO,rfl, ?_⟩
     change fQ _ [.im (i7 C fl qs), .im (rT start), .im (rT goal), .un] E (aP ky) CO
     refine fQ.expr (aw.call G1 (hr.mono (by decide)) (aX nx) rfl (fl,qs,start) (aY.cons (nm 0 rfl rfl) (aY.cons (nm 1 rfl rfl) aY.nil)) ⟨hS,sa⟩ (if_pos hg1)) ?_
     refine fQ.expr (aw.call G1 (hr.mono (by decide)) (aX nx) rfl (fl,qs,goal) (aY.cons (nm 0 rfl rfl) (aY.cons (nm 2 rfl rfl) aY.nil)) ⟨hS,sb⟩ (if_pos hg2)) ?_
     refine fQ.expr (aw.call G2 (hr.mono (by decide)) (aX nx) rfl start (aY.cons (nm 1 rfl rfl) aY.nil) (oi hS hg1) (if_pos h4)) ?_
     refine fQ.here (vX.ite (t:=true) (cU.to (cU.ne hu4 (aw.r (aw.call G4 (hr.mono (by decide)) (aX nx) rfl start (aY.cons (nm 1 rfl rfl) aY.nil) (oi hS hg1) rfl)) (aw.r (aw.call G4 (hr.mono (by decide)) (aX nx) rfl goal (aY.cons (nm 2 rfl rfl) aY.nil) (oi hS hg2) rfl)) (oN 59 _) (oN 59 _)) ?_) (fun _=>fQ.here (vX.raise er rfl aw.str)) fun h=>by cases h)
     rw [qN,decide_eq_false hc]
     rfl
   ·rw [if_pos hg1,if_pos hg2,if_neg h4]
    refine .inr ⟨CT,rfl, ?_⟩
    change fQ _ [.im (i7 C fl qs), .im (rT start), .im (rT goal), .un] E (aP ky) CT
    refine fQ.expr (aw.call G1 (hr.mono (by decide)) (aX nx) rfl (fl,qs,start) (aY.cons (nm 0 rfl rfl) (aY.cons (nm 1 rfl rfl) aY.nil)) ⟨hS,sa⟩ (if_pos hg1)) ?_
    refine fQ.expr (aw.call G1 (hr.mono (by decide)) (aX nx) rfl (fl,qs,goal) (aY.cons (nm 0 rfl rfl) (aY.cons (nm 2 rfl rfl) aY.nil)) ⟨hS,sb⟩ (if_pos hg2)) ?_
    exact fQ.here (vX.expr (Ie.call (i:=start) G2 (hr.mono (by decide)) lj rfl (aY.cons (nm 1 rfl rfl) aY.nil) (oi hS hg1) (if_neg h4)))
  ·rw [if_pos hg1,if_neg hg2]
   refine .inr ⟨CS,rfl, ?_⟩
   change fQ _ [.im (i7 C fl qs), .im (rT start), .im (rT goal), .un] E (aP ky) CS
   refine fQ.expr (aw.call G1 (hr.mono (by decide)) (aX nx) rfl (fl,qs,start) (aY.cons (nm 0 rfl rfl) (aY.cons (nm 1 rfl rfl) aY.nil)) ⟨hS,sa⟩ (if_pos hg1)) ?_
   exact fQ.here (vX.expr (Ie.call (i:=(fl,qs,goal)) G1 (hr.mono (by decide)) lj rfl (aY.cons (nm 0 rfl rfl) (aY.cons (nm 2 rfl rfl) aY.nil)) ⟨hS,sb⟩ (if_neg hg2)))
 ·rw [if_neg hg1]
  refine .inr ⟨CS,rfl, ?_⟩
  change fQ _ [.im (i7 C fl qs), .im (rT start), .im (rT goal), .un] E (aP ky) CS
  exact fQ.here (vX.expr (Ie.call (i:=(fl,qs,start)) G1 (hr.mono (by decide)) lj rfl (aY.cons (nm 0 rfl rfl) (aY.cons (nm 1 rfl rfl) aY.nil)) ⟨hS,sa⟩ (if_neg hg1)))
end
structure Nh(K:Frag)(mg:Str->Option Value)(cl:Nat->Addr)(raised:Nat->Prop):Prop where
 n0:mg "NoFloor"=some (.ref (cl 0))
 n1:mg "NoStanding"=some (.ref (cl 1))
 n2:mg "NoLift"=some (.ref (cl 2))
 n3:mg "OtherCrates"=some (.ref (cl 3))
 n4:mg "TooMany"=some (.ref (cl 4))
 n5:mg "NoNames"=some (.ref (cl 5))
 n6:mg "NoOrder"=some (.ref (cl 6))
 n7:mg "BadText"=some (.ref (cl 7))
 ve:mg "ValueError"=none
 is: ∀i j,raised i->j < 8->aZ K (.ref (cl i)) (.ref (cl j))=some (decide (i=j))
 up: ∀i,raised i->aZ K (.ref (cl i)) (.type "ValueError")=some true
 t: ∀i,raised i->Jp K (cl i)
def GR(i:Nat):List Bool:= [decide (i=0),decide (i=1),decide (i=2),decide (i=3),decide (i=4),decide (i=5),decide (i=6),decide (i=7),true]
section
variable {P:aq}{w:World}{K:Frag}{mg:Str->Option Value}{base:Heap}{CX:gF}{cl:Nat->Addr}{raised:Nat->Prop}
theorem Fm:bV ["e","kinds"] ["e"] (aE uf):=⟨rfl,rfl,rfl,by decide +kernel,rfl,by decide +kernel,by decide +kernel⟩
abbrev Gp(P:aq)(w:World)(K:Frag)(mg:Str->Option Value)(base:Heap)(CX:gF)(cl:Nat->Addr)(raised:Nat->Prop):Prop:=
 Mo P w K mg base CX 1 "_law_kind" (fun i:Nat=> [.exc (cl i)]) raised (fun i=> .lst ((GR i).map .bl))
theorem JD{f:Addr}{fd:bj}(B:Bm mg)(T:Nh K mg cl raised)(F:lu K "_law_kind" "_law_kind" uf f fd)(hm:mg "_law_kind"=some (.ref f))(hb:Binds K fd ["e"] []):Gp P w K mg base CX cl raised:=by
 refine Ju F Fm hm hb (fun i=>rfl) fun cdv A outer s H E i M0 hp hr=> ?_
 have px:=Fm.nd
 have hp':raised i:=hp
 have tt:=T.t i hp'
 change WS _ M0 H (aP uf) [.im (.exc (cl i)), .un] {N:=fun _=>D.lst ((GR i).map .bl)= .non,R:=fun d'=>d'= .lst ((GR i).map .bl)}
 refine WS.cons (W1.setF (i:=1) px rfl (.inl rfl) (gV rfl) (eJ.lst (aY.cons (aw.isiE rfl B.s_ rfl T.n0 (nm 0 rfl rfl) tt (T.is i 0 hp' (by decide))) (aY.cons (aw.isiE rfl B.s_ rfl T.n1 (nm 0 rfl rfl) tt (T.is i 1 hp' (by decide))) (aY.cons (aw.isiE rfl B.s_ rfl T.n2 (nm 0 rfl rfl) tt (T.is i 2 hp' (by decide))) (aY.cons (aw.isiE rfl B.s_ rfl T.n3 (nm 0 rfl rfl) tt (T.is i 3 hp' (by decide))) aY.nil))))) ?_)
 refine WS.cons (W1.setF (i:=1) px rfl (.inl rfl) (gV rfl) (eJ.cat (CB 1 rfl rfl) (aw.r (eJ.toD (eJ.lst (aY.cons (aw.isiE rfl B.s_ rfl T.n4 (nm 0 rfl rfl) tt (T.is i 4 hp' (by decide))) (aY.cons (aw.isiE rfl B.s_ rfl T.n5 (nm 0 rfl rfl) tt (T.is i 5 hp' (by decide))) (aY.cons (aw.isiE rfl B.s_ rfl T.n6 (nm 0 rfl rfl) tt (T.is i 6 hp' (by decide))) (aY.cons (aw.isiE rfl B.s_ rfl T.n7 (nm 0 rfl rfl) tt (T.is i 7 hp' (by decide))) aY.nil))))))) (jR rfl)) ?_)
 exact WS.one (W1.ret (eJ.toD (eJ.cat (CB 1 rfl rfl) (aw.r (eJ.toD (eJ.lst (aY.cons (aw.isiET rfl B.s_ rfl T.ve (by decide +kernel) (nm 0 rfl rfl) tt (T.up i hp')) aY.nil)))) (jR rfl))) rfl)
end
section
variable {P:aq}{w:World}{K:Frag}{mg:Str->Option Value}{base:Heap}{CX:gF}
theorem MZ:bV ["k"] ["k"] (aE AQ):=⟨rfl,rfl,rfl,by decide +kernel,rfl,by decide +kernel,by decide +kernel⟩
abbrev LS(P:aq)(w:World)(K:Frag)(mg:Str->Option Value)(base:Heap)(CX:gF):Prop:=
 nq P w K mg base CX 1 "_law_one" (fun k:Nat=> [.int k]) (fun _=>True) (fun k=> .ok (.lst ((GR k).map .bl)))
theorem L7{f:Addr}{fd:bj}(B:Bm mg)(F:lu K "_law_one" "_law_one" AQ f fd)(hm:mg "_law_one"=some (.ref f))(hb:Binds K fd ["k"] []):LS P w K mg base CX:=by
 refine fD F MZ hm hb (fun i=>rfl) fun cdv A outer s H E k M0 hp hr=>⟨_,rfl, ?_⟩
 change WS _ M0 H (aP AQ) [.im (.int k)] _
 refine WS.one (W1.ret (eJ.toD (eJ.cat (ds:=(bH 8).map fun j=>D.bl (decide (k=j))) (aw.r (eJ.toD (eJ.comp (ds:=lF 0 8) (es:=(bH 8).map fun j=>D.bl (decide (k=j))) (cs:= [.int k]) (N':= ["j","k"]) (js:= [0])
  (eY.cap1 (pre:= [(".0", .local),("j", .local)]) (post:= []) (rn:= [(".0", .local),("j", .local),("k", .cell)]) rfl (by decide +kernel) (by decide +kernel) rfl (by decide +kernel) rfl (by decide +kernel) rfl rfl rfl rfl rfl (by decide +kernel)) rfl (by decide +kernel)
  (lE.to (lE.range (j:=8) rfl B.range aw.int (by decide)) rfl) (KL rfl) (by rw [ae,cg,iw]) (by rw [iw]; decide) ?_))) (aw.r (eJ.toD (eJ.lst (aY.cons aw.bl aY.nil)))) (by rw [ae,cg]; decide))) rfl)
 intro C s₀ H₀ fp pins i d e h1 h2
 obtain⟨rfl,hi⟩:=kz h1
 rw [aA,q8 hi]at h2
 cases h2
 refine aw.to (aw.cI .eq (nm 1 rfl rfl) (nm 0 rfl rfl)) ?_
 congr 1
 exact decide_eq_decide.mpr (by omega)
end
def sH(call:Nat)(f:eG)(start goal:Rows):Option Nat:=
 if good f start&&(decide (call≠2) || good f goal)then
  if start.flatten.length<=4 then
   if call=2/\n9 start.flatten≠n9 goal.flatten then some 3 else none
  else some 4
 else some 1
def Ln:Option Nat->List Bool
 | none=> []
 | some j=>GR j
def m_(o:Option Nat):D:= .lst ((Ln o).map .bl)
theorem w_{cl:Nat->Addr}{f:eG}{start goal:Rows}{d:D}{c:Nat}(hc:c≠2):(Ac (cl 1) (cl 4) f start d= .ok d/\sH c f start goal=none)\/ ∃j,(j=1\/j=4)/\Ac (cl 1) (cl 4) f start d= .error (cl j)/\sH c f start goal=some j:=by
 unfold Ac sH
 rw [decide_eq_true hc,Bool.true_or,gX]
 by_cases h1:good f start=true
 ·rw [if_pos h1,if_pos h1]
  by_cases h2:start.flatten.length<=4
  ·rw [if_pos h2,if_pos h2,if_neg (fun z=>hc z.1)]
   exact .inl ⟨rfl,rfl⟩
  ·rw [if_neg h2,if_neg h2]
   exact .inr ⟨4, .inr rfl,rfl,rfl⟩
 ·rw [if_neg h1,if_neg h1]
  exact .inr ⟨1, .inl rfl,rfl,rfl⟩
theorem CW{cl:Nat->Addr}{f:eG}{start goal:Rows}:(∃d,uq (cl 1) (cl 3) (cl 4) f start goal= .ok d/\sH 2 f start goal=none)\/ ∃j,(j=1\/j=3\/j=4)/\uq (cl 1) (cl 3) (cl 4) f start goal= .error (cl j)/\sH 2 f start goal=some j:=by
 unfold uq sH
 rw [decide_eq_false (show ¬((2:Nat)≠2)from fun z=>z rfl),Bool.false_or]
 by_cases h1:good f start=true
 ·by_cases h2:good f goal=true
  ·rw [if_pos h1,if_pos h2,h1,h2,Bool.and_self,if_pos rfl]
   by_cases h3:start.flatten.length<=4
   ·rw [if_pos h3,if_pos h3]
    by_cases h4:n9 start.flatten=n9 goal.flatten
    ·have hz: ¬((2:Nat)=2/\n9 start.flatten≠n9 goal.flatten):=fun z=>z.2 h4
     rw [if_pos h4,if_neg hz]
     by_cases h5:start∈(jm f goal).map (·.1)
     ·exact .inl ⟨_,if_pos h5,rfl⟩
     ·exact .inl ⟨_,if_neg h5,rfl⟩
    ·rw [if_neg h4,if_pos ⟨rfl,h4⟩]
     exact .inr ⟨3, .inr (.inl rfl),rfl,rfl⟩
   ·rw [if_neg h3,if_neg h3]
    exact .inr ⟨4, .inr (.inr rfl),rfl,rfl⟩
  ·rw [if_pos h1,if_neg h2,if_neg (fun z=>h2 (by rw [bJ]at z; exact z.2))]
   exact .inr ⟨1, .inl rfl,rfl,rfl⟩
 ·rw [if_neg h1,if_neg (fun z=>h1 (by rw [bJ]at z; exact z.1))]
  exact .inr ⟨1, .inl rfl,rfl,rfl⟩
section
variable {P:aq}{w:World}{K:Frag}{mg:Str->Option Value}{base:Heap}{C C0:Addr}{cl:Nat->Addr}{raised:Nat->Prop}
theorem Cc:bV ["call","floor","start","goal","kinds","e"] ["call","floor","start","goal"] (aE pT):=⟨rfl,rfl,rfl,by decide +kernel,rfl,by decide +kernel,by decide +kernel⟩
abbrev AK(P:aq)(w:World)(K:Frag)(mg:Str->Option Value)(base:Heap)(C:Addr):Prop:=
 nq P w K mg base (g8 P w) 10 "_law_kinds" (fun i:Nat×eG×fk×Rows×Rows=> [.int i.1,i7 C i.2.1 i.2.2.1,rT i.2.2.2.1,rT i.2.2.2.2]) (fun i=>i.1<=2/\xP i.2.1 i.2.2.1 i.2.2.2.1 i.2.2.2.2) (fun i=> .ok (m_ (sH i.1 i.2.1 i.2.2.2.1 i.2.2.2.2)))
set_option maxHeartbeats 2000000 in
theorem Gg{f:Addr}{fd:bj}(hr1:raised 1)(hr3:raised 3)(hr4:raised 4)(hC0:mg "CraneError"=some (.ref C0))(hbl: ∀j,raised j->om (cl j) C0 base)(G1:xI P w K mg base C (cl 1) (cl 4))(G2:uT P w K mg base C (cl 1) (cl 4))(G3:Fp P w K mg base C (cl 1) (cl 3) (cl 4))(G4:Gp P w K mg base (g8 P w) cl raised)
  (F:lu K "_law_kinds" "_law_kinds" pT f fd)(hm:mg "_law_kinds"=some (.ref f))(hb:Binds K fd ["call","floor","start","goal"] []):AK P w K mg base C:=by
 have nx:NX (g8 P w):=lG
 refine fD F Cc hm hb (fun i=>rfl) fun cdv A outer s H E i M0 hp hr=>⟨_,rfl, ?_⟩
 obtain⟨call,fl,qs,start,goal⟩:=i
 obtain⟨hc,hS,sa,sb⟩:call<=2/\xP fl qs start goal:=hp
 have px:=Cc.nd
 have hra: ∀{j},(j=1\/j=4)->raised j:=fun{j} h=>by rcases h with rfl | rfl <;> assumption
 have hrb: ∀{j},(j=1\/j=3\/j=4)->raised j:=fun{j} h=>by rcases h with rfl | rfl | rfl <;> assumption
 show WS _ M0 H (aP pT) [.im (.int call), .im (i7 C fl qs), .im (rT start), .im (rT goal), .un, .un] {N:=fun _=>m_ (sH call fl start goal)= .non,R:=fun d'=>d'=m_ (sH call fl start goal)}
 refine WS.cons (W1.setF (i:=4) px rfl (.inl rfl) (gV rfl) (eJ.lst aY.nil) ?_)
 show WS _ M0 H _ [.im (.int call), .im (i7 C fl qs), .im (rT start), .im (rT goal), .mu [], .un] _
 have:call=0\/call=1\/call=2:=by omega
 rcases this with rfl | rfl | rfl
 ·rcases w_ (cl:=cl) (f:=fl) (start:=start) (goal:=goal) (d:=z8 (jm fl start)) (c:=0) (by decide)with⟨e1,e2⟩ | ⟨j,hj,e1,e2⟩
  ·rw [e2]
   refine WS.cons (W1.tryOk (fun _ _ z=>z) (WS.cons (W1.ite (cU.cI .eq (nm 0 rfl rfl) aw.int) (fun _=>WS.one (W1.expr (aw.call G1 (hr.mono (by decide)) (aX nx) rfl (fl,qs,start) (aY.cons (nm 1 rfl rfl) (aY.cons (nm 2 rfl rfl) aY.nil)) ⟨hS,sa⟩ e1) ?_)) fun h=>by cases h)))
   refine WS.cons (W1.ite (cU.cI .eq (nm 0 rfl rfl) aw.int) (fun h=>by cases h) fun _=>WS.nil (WS.one (W1.ite (cU.cI .eq (nm 0 rfl rfl) aw.int) (fun h=>by cases h) fun _=>WS.nil ?_)))
   exact WS.freeze (i:=4) rfl (WS.one (W1.ret (nm 4 rfl rfl) rfl))
  ·rw [e2]
   have hj':=hra hj
   refine WS.cons (W1.tryRaise (j:=5) (C:=cl j) (D0:=C0) rfl rfl rfl px rfl rfl (gV rfl) rfl hC0 (hbl j hj') (fun pn W=>nj.ite (cU.cI .eq (nm 0 rfl rfl) aw.int) (fun _=>nj.expr (MB.call (i:=(fl,qs,start)) rfl G1 (hr.mono (by decide)) rfl (aY.cons (nm 1 rfl rfl) (aY.cons (nm 2 rfl rfl) aY.nil)) ⟨hS,sa⟩ e1)) fun h=>by cases h) fun a=>WS.one (W1.set (i:=4) px rfl (.inl rfl) (gV rfl) (aw.callH (i:=j) G4 ⟨rfl,(hr.mono (show 1<=9 by decide)).dp,(hr.mono (show 1<=9 by decide)).un⟩ (aX nx) rfl (aY.cons (nm 5 rfl rfl) aY.nil) hj' rfl) ?_))
   exact WS.one (W1.ret (nm 4 rfl rfl) rfl)
 ·rcases w_ (cl:=cl) (f:=fl) (start:=start) (goal:=goal) (d:=yg (jm fl start)) (c:=1) (by decide)with⟨e1,e2⟩ | ⟨j,hj,e1,e2⟩
  ·rw [e2]
   refine WS.cons (W1.tryOk (fun _ _ z=>z) (WS.cons (W1.ite (cU.cI .eq (nm 0 rfl rfl) aw.int) (fun h=>by cases h) fun _=>WS.nil ?_)))
   refine WS.cons (W1.ite (cU.cI .eq (nm 0 rfl rfl) aw.int) (fun _=>WS.one (W1.expr (aw.call G2 (hr.mono (by decide)) (aX nx) rfl (fl,qs,start) (aY.cons (nm 1 rfl rfl) (aY.cons (nm 2 rfl rfl) aY.nil)) ⟨hS,sa⟩ e1) ?_)) fun h=>by cases h)
   refine WS.one (W1.ite (cU.cI .eq (nm 0 rfl rfl) aw.int) (fun h=>by cases h) fun _=>WS.nil ?_)
   exact WS.freeze (i:=4) rfl (WS.one (W1.ret (nm 4 rfl rfl) rfl))
  ·rw [e2]
   have hj':=hra hj
   refine WS.cons (W1.tryRaise (j:=5) (C:=cl j) (D0:=C0) rfl rfl rfl px rfl rfl (gV rfl) rfl hC0 (hbl j hj') (fun pn W=>nj.skip (cU.to (cU.cI .eq (nm 0 rfl rfl) aw.int) rfl) (nj.ite (cU.cI .eq (nm 0 rfl rfl) aw.int) (fun _=>nj.expr (MB.call (i:=(fl,qs,start)) rfl G2 (hr.mono (by decide)) rfl (aY.cons (nm 1 rfl rfl) (aY.cons (nm 2 rfl rfl) aY.nil)) ⟨hS,sa⟩ e1)) fun h=>by cases h)) fun a=>WS.one (W1.set (i:=4) px rfl (.inl rfl) (gV rfl) (aw.callH (i:=j) G4 ⟨rfl,(hr.mono (show 1<=9 by decide)).dp,(hr.mono (show 1<=9 by decide)).un⟩ (aX nx) rfl (aY.cons (nm 5 rfl rfl) aY.nil) hj' rfl) ?_))
   exact WS.one (W1.ret (nm 4 rfl rfl) rfl)
 ·rcases CW (cl:=cl) (f:=fl) (start:=start) (goal:=goal)with⟨d,e1,e2⟩ | ⟨j,hj,e1,e2⟩
  ·rw [e2]
   refine WS.cons (W1.tryOk (fun _ _ z=>z) (WS.cons (W1.ite (cU.cI .eq (nm 0 rfl rfl) aw.int) (fun h=>by cases h) fun _=>WS.nil ?_)))
   refine WS.cons (W1.ite (cU.cI .eq (nm 0 rfl rfl) aw.int) (fun h=>by cases h) fun _=>WS.nil ?_)
   refine WS.one (W1.ite (cU.cI .eq (nm 0 rfl rfl) aw.int) (fun _=>WS.one (W1.expr (aw.call G3 hr (aX nx) rfl (fl,qs,start,goal) (aY.cons (nm 1 rfl rfl) (aY.cons (nm 2 rfl rfl) (aY.cons (nm 3 rfl rfl) aY.nil))) ⟨hS,sa,sb⟩ e1) ?_)) fun h=>by cases h)
   exact WS.freeze (i:=4) rfl (WS.one (W1.ret (nm 4 rfl rfl) rfl))
  ·rw [e2]
   have hj':=hrb hj
   refine WS.cons (W1.tryRaise (j:=5) (C:=cl j) (D0:=C0) rfl rfl rfl px rfl rfl (gV rfl) rfl hC0 (hbl j hj') (fun pn W=>nj.skip (cU.to (cU.cI .eq (nm 0 rfl rfl) aw.int) rfl) (nj.skip (cU.to (cU.cI .eq (nm 0 rfl rfl) aw.int) rfl) (nj.ite (cU.cI .eq (nm 0 rfl rfl) aw.int) (fun _=>nj.expr (MB.call (i:=(fl,qs,start,goal)) rfl G3 hr rfl (aY.cons (nm 1 rfl rfl) (aY.cons (nm 2 rfl rfl) (aY.cons (nm 3 rfl rfl) aY.nil))) ⟨hS,sa,sb⟩ e1)) fun h=>by cases h))) fun a=>WS.one (W1.set (i:=4) px rfl (.inl rfl) (gV rfl) (aw.callH (i:=j) G4 ⟨rfl,(hr.mono (show 1<=9 by decide)).dp,(hr.mono (show 1<=9 by decide)).un⟩ (aX nx) rfl (aY.cons (nm 5 rfl rfl) aY.nil) hj' rfl) ?_))
   exact WS.one (W1.ret (nm 4 rfl rfl) rfl)
theorem M7:bV ["standing","cell"] ["standing","cell"] (aE AO):=⟨rfl,rfl,rfl,by decide +kernel,rfl,by decide +kernel,by decide +kernel⟩
def bad(rows:Rows)(c:Int):Rows:=if c % 2=0 then rows ++ [[]]else rows.take (rows.length - 1) ++ [rows.getD (rows.length - 1) [] ++ [9,9]]
theorem CK{rows:Rows}{c:Int}(h0:0 < rows.length):(bad rows c).flatten.length<=rows.flatten.length+2/\(bad rows c).length<=rows.length+1:=by
 unfold bad
 split
 ·simp
 ·have e:rows.flatten.length=(rows.take (rows.length - 1)).flatten.length+(rows.getD (rows.length - 1) []).length:=by
   have h1:rows[rows.length - 1]? =some (rows.getD (rows.length - 1) []):=by
    rw [aB,ah (by omega)]; rfl
   have h2:=mE h1
   rw [show rows.length - 1+1=rows.length by omega,dP]at h2
   rw [h2,ao]
  rw [q9,ao,ao,bu]
  simp only [cJ,List.flatten_nil,bq,ao,aL,dG]
  omega
theorem Gy(n d:Nat)(h:0 < n):HT.iH n d (some (-1))=n - 1:=by
 unfold HT.iH
 simp
 omega
theorem Gs{ds:List D}(h:0 < ds.length):cutD ds none (some (-1))=ds.take (ds.length - 1):=by
 unfold cutD
 rw [Gy _ _ h]
 show(ds.drop 0).take (ds.length - 1 - 0)=_
 rw [lY,BJ]
abbrev Lp(P:aq)(w:World)(K:Frag)(mg:Str->Option Value)(base:Heap)(CX:gF):Prop:=
 nq P w K mg base CX 1 "_law_bad" (fun i:Rows×Int=> [rT i.1, .int i.2]) (fun i=>0 < i.1.length/\i.1.length<=4/\i.1.flatten.length<=24) (fun i=> .ok (rT (bad i.1 i.2)))
theorem Lw{f:Addr}{fd:bj}{CX:gF}(F:lu K "_law_bad" "_law_bad" AO f fd)(hm:mg "_law_bad"=some (.ref f))(hb:Binds K fd ["standing","cell"] []):Lp P w K mg base CX:=by
 refine fD F M7 hm hb (fun i=>rfl) fun cdv A outer s H E i M0 hp hr=>⟨_,rfl, ?_⟩
 obtain⟨rows,c⟩:=i
 obtain⟨h0,h4,h24⟩:0 < rows.length/\rows.length<=4/\rows.flatten.length<=24:=hp
 have lr:(bQ true rows).length=rows.length:=ae ..
 change WS _ M0 H (aP AO) [.im (rT rows), .im (.int c)] {N:=fun _=>rT (bad rows c)= .non,R:=fun d'=>d'=rT (bad rows c)}
 have hlt:rows.length - 1 < rows.length:=by omega
 have hget:rows[rows.length - 1]=rows.getD (rows.length - 1) []:=by rw [aB,ah hlt]; rfl
 refine WS.cons (W1.ite (cU.cI .eq (aw.mod (nm 1 rfl rfl) aw.int (by decide)) aw.int) (fun h=> ?_) fun h=>WS.nil ?_)
 ·have h':c % 2=0:=of_decide_eq_true h
  refine WS.one (W1.ret (aw.catT (nm 0 rfl rfl) (aw.tup (aY.cons (aw.tup aY.nil) aY.nil)) (by rw [lr]; show rows.length+1<=_; omega)) ?_)
  unfold bad
  rw [if_pos h']
  show D.tup (bQ true rows ++ [.tup []])=rT (rows ++ [[]])
  unfold rT bQ
  rw [bC]
  rfl
 ·have h': ¬c % 2=0:=of_decide_eq_false h
  have ha:wg (bQ true rows) (-1)=some (.tup ((rows.getD (rows.length - 1) []).map .int)):=by
   unfold bQ
   rw [tq]
   unfold wg E_
   rw [if_neg (by omega),if_pos (by omega)]
   show(rows[((rows.length:Int)+ -1).toNat]?).map _=_
   rw [show((rows.length:Int)+ -1).toNat=rows.length - 1 by omega,ah hlt,hget]
   rfl
  have la:(rows.getD (rows.length - 1) []).length<=24:=by rw [<-hget]; exact bE (kZ (a_ hlt)) h24
  have ec:cutD (bQ true rows) none (some (-1))=bQ true (rows.take (rows.length - 1)):=by
   rw [Gs (by rw [lr]; exact h0),lr]
   unfold bQ
   rw [List.map_take]
  refine WS.one (W1.ret (aw.catT (aw.to (aw.cutT (nm 0 rfl rfl) Ay.none (Ay.some (aw.neg aw.int))) (congrArg D.tup ec)) (aw.tup (aY.cons (aw.catT (aw.ixT (nm 0 rfl rfl) (aw.neg aw.int) ha) (aw.tup (aY.cons aw.int (aY.cons aw.int aY.nil))) (by rw [ae]; show _+2<=_; omega)) aY.nil)) (by show((rows.take (rows.length - 1)).map _).length+1<=_; rw [ae,bu]; omega)) ?_)
  unfold bad
  rw [if_neg h']
  show D.tup (bQ true (rows.take (rows.length - 1)) ++ [.tup ((rows.getD (rows.length - 1) []).map D.int ++ [.int 9, .int 9])])=rT (rows.take (rows.length - 1) ++ [rows.getD (rows.length - 1) [] ++ [9,9]])
  unfold rT bQ
  rw [bC,List.map_singleton,bC]
  rfl
end
theorem Vb{X:Cx}{ρ:fm}{e:Expr}{es:List Expr}{C:Addr}{x:Str}{ns:List Str}{pos p:Pos}{CX:gF}{k:Nat}{ι:Type}{args:ι->List D}{pre:ι->Prop}{res:ι->List D->Prop}{i:ι}(F:OV X.prog X.w X.K X.mg X.base CX k x C ns args pre res)(hr:fI (k+1) X.A)(hx:Passes CX X E0)(hg:Gl X x)(ha:aY X ρ (e::es) (args i))(hp:pre i)(hdb:(x==("__debug__":Str))=false:=by decide)
  (he:au (e::es) X.env=(false,eval e X.env)::au es X.env:=by rfl)(hpl:(eQ pos (au es X.env)).any (·.1)=false:=by rfl):JP X ρ (.Call (.Name x p) (e::es) [] pos) (fun d=> ∃ds,d= .ins C ns ds/\res i ds):=JP.make F hr hx hg i ha hp hdb he hpl
theorem pY(o:Option Nat):D.flat 60 (m_ o):=fun d hd=>by
 obtain⟨i,_,rfl⟩:=bh.mp hd
 exact c_
theorem NB(c:Int): ∃mn:Int,0<=mn/\mn<=7/\wg [D.int 0, .int 1, .int 2, .int 3, .int 5, .int 6, .int 7, .int 3, .int 4] (c % 9)=some (.int mn):=by
 have h0:=iX c (show(9:Int)≠0 by decide)
 have h1:=gN c (show(0:Int) < 9 by decide)
 have:c % 9=0\/c % 9=1\/c % 9=2\/c % 9=3\/c % 9=4\/c % 9=5\/c % 9=6\/c % 9=7\/c % 9=8:=by omega
 rcases this with e | e | e | e | e | e | e | e | e <;> rw [e]
 ·exact⟨0,by decide,by decide,rfl⟩
 ·exact⟨1,by decide,by decide,rfl⟩
 ·exact⟨2,by decide,by decide,rfl⟩
 ·exact⟨3,by decide,by decide,rfl⟩
 ·exact⟨5,by decide,by decide,rfl⟩
 ·exact⟨6,by decide,by decide,rfl⟩
 ·exact⟨7,by decide,by decide,rfl⟩
 ·exact⟨3,by decide,by decide,rfl⟩
 ·exact⟨4,by decide,by decide,rfl⟩
def JO(call:Nat)(start goal:Rows):Option Nat:=if call=2/\n9 start.flatten≠n9 goal.flatten then some 3 else none
def JJ(call:Nat)(start goal:Rows):Option Nat:=if start.flatten.length<=4 then JO call start goal else some 4
theorem Gk(call:Nat)(f:eG)(start goal:Rows):sH call f start goal=if good f start&&(decide (call≠2) || good f goal)then JJ call start goal else some 1:=rfl
section
variable {P:aq}{w:World}{K:Frag}{mg:Str->Option Value}{base:Heap}{C:Addr}
theorem KU:bV ["script","floor","many","start","goal","mode","call","due"] ["script"] (aE we):=⟨rfl,rfl,rfl,by decide +kernel,rfl,by decide +kernel,by decide +kernel⟩
set_option maxHeartbeats 4000000 in
theorem Mb{f:Addr}{fd:bj}(B:Bm mg)(G1:B5 P w K mg base (g8 P w))(G2:AL P w K mg base (g8 P w))(G3:rj P w K mg base (g8 P w))(G4:BR P w K mg base (g8 P w))(G5:GH P w K mg base (g8 P w) C)(G6:AK P w K mg base C)(G7:LS P w K mg base (g8 P w))(G8:yp P w K mg base (g8 P w))(G9:Lp P w K mg base (g8 P w))
  (F:lu K "law" "law" we f fd):nS P w K mg base (g8 P w) 11 f fd ["script"] (CF K):=by
 have nx:NX (g8 P w):=lG
 refine B3 F KU (fun i=>rfl) fun cdv A outer s H E ns M0 hp hr=>⟨_,rfl, ?_⟩
 have hns:ns.length<=63:=hp
 have px:=KU.nd
 have hr1:fI 1 _:=hr.mono (by decide)
 have hr2:fI 2 _:=hr.mono (by decide)
 have hr6:fI 6 _:=hr.mono (by decide)
 have hu:=uS hr
 have hu4:=IW hu
 change WS _ M0 H (aP we) [.im (.lst (ns.map .int)), .un, .un, .un, .un, .un, .un, .un] {N:=fun _=>D.bl true= .non,R:=fun d'=>d'= .bl true}
 refine WS.cons (W1.set (i:=1) px rfl (.inl rfl) (gV rfl) (aw.call G2 hr2 (aX nx) rfl (ns,0,7) (aY.cons (nm 0 rfl rfl) (aY.cons aw.int (aY.cons aw.int aY.nil))) ⟨show 0 < 7 by decide,show 7 < 1000 by decide⟩ rfl) ?_)
 have hF:=J5 ns
 generalize uO ns 0 7=fl at hF
 have f1:2<=fl.st/\fl.st<=4:=hF.st
 have f2:1<=fl.ht/\fl.ht<=6:=hF.ht
 obtain⟨mn0,m0,m1,em⟩:=NB (cellAt ns 7)
 refine WS.cons (W1.set (i:=2) (d:= .int mn0) px rfl (.inl rfl) (gV rfl) (aw.ixL (aw.r (eJ.toD (eJ.lst (aY.cons aw.int (aY.cons aw.int (aY.cons aw.int (aY.cons aw.int (aY.cons aw.int (aY.cons aw.int (aY.cons aw.int (aY.cons aw.int (aY.cons aw.int aY.nil)))))))))))) (aw.mod (aw.call G1 hr1 (aX nx) rfl (ns,7) (aY.cons (nm 0 rfl rfl) (aY.cons aw.int aY.nil)) trivial rfl) aw.int (by decide)) em) ?_)
 refine WS.cons (P:=_) (W1.imp (P:={N:=fun ρ'=> ∃mn:Int,(0<=mn/\mn<=7)/\ρ'= [.im (.lst (ns.map .int)), .im fl.d, .im (.int mn), .un, .un, .un, .un, .un],R:=fun _=>False}) (W1.ite (ju.t (ju.and (cU.cI .gt (aw.ixT (nm 1 rfl rfl) aw.int rfl) aw.int) fun _=>ju.and1 (cU.cI .eq (nm 2 rfl rfl) aw.int))) (fun _=>WS.one (W1.set (i:=2) px rfl (.inl rfl) (gV rfl) aw.int ⟨3,by decide,rfl⟩)) fun _=>WS.nil ⟨mn0,⟨m0,m1⟩,rfl⟩) ?_ (fun _ z=>z.elim) (fun _ z=>z.elim) fun _ z=>z.elim)
 rintro ρ ⟨mn,⟨c0,c1⟩,rfl⟩
 have ecr:lF 0 mn.toNat=((bH mn.toNat).map (fun(i:Nat)=>(0:Int)+(i:Int))).map .int:=by unfold lF; rw [dI]; rfl
 have lcr:((bH mn.toNat).map (fun(i:Nat)=>(0:Int)+(i:Int))).length<=100:=by rw [ae,cg]; omega
 generalize (bH mn.toNat).map (fun(i:Nat)=>(0:Int)+(i:Int))=cr at ecr lcr
 refine WS.cons (W1.set (i:=3) px rfl (.inl rfl) (gV rfl) (aw.call G3 hr2 (aX nx) rfl (fl,cellAt ns 8 % 2147483647,cr) (aY.cons (nm 1 rfl rfl) (aY.cons (aw.mod (aw.call G1 hr1 (aX nx) rfl (ns,8) (aY.cons (nm 0 rfl rfl) (aY.cons aw.int aY.nil)) trivial rfl) aw.int (by decide)) (aY.cons (aw.to (eJ.toD (eJ.listRng rfl rfl B.list rfl B.range (nm 2 rfl rfl) c0 (by omega))) (by rw [ecr])) aY.nil))) ⟨f1.1,f1.2,lcr⟩ rfl) ?_)
 have hgs:=lD (f:=fl) (cell:=cellAt ns 8 % 2147483647) (crates:=cr) (by omega) (by omega)
 generalize fA fl (cellAt ns 8 % 2147483647) cr=s0 at hgs
 refine WS.cons (W1.set (i:=4) px rfl (.inl rfl) (gV rfl) (aw.call G3 hr2 (aX nx) rfl (fl,cellAt ns 9 % 2147483647,cr) (aY.cons (nm 1 rfl rfl) (aY.cons (aw.mod (aw.call G1 hr1 (aX nx) rfl (ns,9) (aY.cons (nm 0 rfl rfl) (aY.cons aw.int aY.nil)) trivial rfl) aw.int (by decide)) (aY.cons (aw.to (eJ.toD (eJ.listRng rfl rfl B.list rfl B.range (nm 2 rfl rfl) c0 (by omega))) (by rw [ecr])) aY.nil))) ⟨f1.1,f1.2,lcr⟩ rfl) ?_)
 have hgg:=lD (f:=fl) (cell:=cellAt ns 9 % 2147483647) (crates:=cr) (by omega) (by omega)
 generalize fA fl (cellAt ns 9 % 2147483647) cr=g0 at hgg
 refine WS.cons (P:=_) (W1.imp (P:={N:=fun ρ'=> ∃g1:Rows,good fl g1=true/\ρ'= [.im (.lst (ns.map .int)), .im fl.d, .im (.int mn), .im (rT s0), .im (rT g1), .un, .un, .un],R:=fun _=>False}) (W1.ite (cU.cI .eq (aw.mod (aw.call G1 hr1 (aX nx) rfl (ns,10) (aY.cons (nm 0 rfl rfl) (aY.cons aw.int aY.nil)) trivial rfl) aw.int (by decide)) aw.int) (fun _=>WS.one (W1.set (i:=4) px rfl (.inl rfl) (gV rfl) (aw.call G3 hr2 (aX nx) rfl (fl,cellAt ns 9 % 2147483647, [cellAt ns 10 / 3 % 9]) (aY.cons (nm 1 rfl rfl) (aY.cons (aw.mod (aw.call G1 hr1 (aX nx) rfl (ns,9) (aY.cons (nm 0 rfl rfl) (aY.cons aw.int aY.nil)) trivial rfl) aw.int (by decide)) (aY.cons (eJ.toD (eJ.lst (aY.cons (aw.mod (aw.fdiv (aw.call G1 hr1 (aX nx) rfl (ns,10) (aY.cons (nm 0 rfl rfl) (aY.cons aw.int aY.nil)) trivial rfl) aw.int ⟨by decide,by decide⟩) aw.int (by decide)) aY.nil))) aY.nil))) ⟨f1.1,f1.2,show 1<=100 by decide⟩ rfl) ⟨_,lD (by omega) (by omega),rfl⟩)) fun _=>WS.nil ⟨g0,hgg,rfl⟩) ?_ (fun _ z=>z.elim) (fun _ z=>z.elim) fun _ z=>z.elim)
 rintro ρ ⟨g1,hg1,rfl⟩
 have len: ∀{r:Rows},good fl r=true->0 < r.length/\r.length<=4/\r.flatten.length<=24:=fun{r} h=>by
  have h1:=g6 h
  have h2:=(pW h f1.2 f2.2).1
  exact⟨by omega,by omega,h2⟩
 refine WS.cons (W1.set (i:=5) px rfl (.inl rfl) (gV rfl) (aw.mod (aw.call G1 hr1 (aX nx) rfl (ns,11) (aY.cons (nm 0 rfl rfl) (aY.cons aw.int aY.nil)) trivial rfl) aw.int (by decide)) ?_)
 generalize cellAt ns 11 % 6=md
 refine WS.cons (P:=_) (W1.imp (P:={N:=fun ρ'=> ∃r1:Rows,(r1.flatten.length<=26/\r1.length<=5)/\ρ'= [.im (.lst (ns.map .int)), .im fl.d, .im (.int mn), .im (rT r1), .im (rT g1), .im (.int md), .un, .un],R:=fun _=>False}) (W1.ite (cU.cI .eq (nm 5 rfl rfl) aw.int) (fun _=>WS.one (W1.set (i:=3) px rfl (.inl rfl) (gV rfl) (aw.call G9 hr1 (aX nx) rfl (s0,cellAt ns 11 / 6) (aY.cons (nm 3 rfl rfl) (aY.cons (aw.fdiv (aw.call G1 hr1 (aX nx) rfl (ns,11) (aY.cons (nm 0 rfl rfl) (aY.cons aw.int aY.nil)) trivial rfl) aw.int ⟨by decide,by decide⟩) aY.nil)) (len hgs) rfl) ⟨bad s0 (cellAt ns 11 / 6),(by have h1:=CK (c:=cellAt ns 11 / 6) (len hgs).1; have h2:=(len hgs).2; exact⟨by omega,by omega⟩),rfl⟩)) fun _=>WS.nil ⟨s0,(by have h2:=(len hgs).2; exact⟨by omega,by omega⟩),rfl⟩) ?_ (fun _ z=>z.elim) (fun _ z=>z.elim) fun _ z=>z.elim)
 rintro ρ ⟨r1,⟨a1,a2⟩,rfl⟩
 refine WS.cons (P:=_) (W1.imp (P:={N:=fun ρ'=> ∃r2:Rows,(r2.flatten.length<=26/\r2.length<=5)/\ρ'= [.im (.lst (ns.map .int)), .im fl.d, .im (.int mn), .im (rT r1), .im (rT r2), .im (.int md), .un, .un],R:=fun _=>False}) (W1.ite (cU.cI .eq (nm 5 rfl rfl) aw.int) (fun _=>WS.one (W1.set (i:=4) px rfl (.inl rfl) (gV rfl) (aw.call G9 hr1 (aX nx) rfl (g1,cellAt ns 11 / 6) (aY.cons (nm 4 rfl rfl) (aY.cons (aw.fdiv (aw.call G1 hr1 (aX nx) rfl (ns,11) (aY.cons (nm 0 rfl rfl) (aY.cons aw.int aY.nil)) trivial rfl) aw.int ⟨by decide,by decide⟩) aY.nil)) (len hg1) rfl) ⟨bad g1 (cellAt ns 11 / 6),(by have h1:=CK (c:=cellAt ns 11 / 6) (len hg1).1; have h2:=(len hg1).2; exact⟨by omega,by omega⟩),rfl⟩)) fun _=>WS.nil ⟨g1,(by have h2:=(len hg1).2; exact⟨by omega,by omega⟩),rfl⟩) ?_ (fun _ z=>z.elim) (fun _ z=>z.elim) fun _ z=>z.elim)
 rintro ρ ⟨r2,⟨b1,b2⟩,rfl⟩
 have k0:0<=cellAt ns 12 % 3:=iX _ (by decide)
 have k1:cellAt ns 12 % 3 < 3:=gN _ (by decide)
 obtain⟨cn,ec,hcn⟩: ∃cn:Nat,cellAt ns 12 % 3=(cn:Int)/\cn<=2:=⟨(cellAt ns 12 % 3).toNat,by omega,by omega⟩
 refine WS.cons (W1.set (i:=6) (d:= .int (cn:Int)) px rfl (.inl rfl) (gV rfl) (aw.to (aw.mod (aw.call G1 hr1 (aX nx) rfl (ns,12) (aY.cons (nm 0 rfl rfl) (aY.cons aw.int aY.nil)) trivial rfl) aw.int (by decide)) (congrArg D.int ec)) ?_)
 refine WS.cons (W1.setF (i:=7) px rfl (.inl rfl) (gV rfl) (eJ.lst aY.nil) ?_)
 refine WS.freeze (i:=7) rfl ?_
 change WS _ M0 H _ [.im (.lst (ns.map .int)), .im fl.d, .im (.int mn), .im (rT r1), .im (rT r2), .im (.int md), .im (.int (cn:Int)), .im (m_ none)] _
 have p1:r1.flatten.length < 64:=by omega
 have p2:r2.flatten.length < 64:=by omega
 have q1:r1.flatten.length < 4000/\r1.length < 4000:=⟨by omega,by omega⟩
 have q2:r2.flatten.length < 4000/\r2.length < 4000:=⟨by omega,by omega⟩
 refine WS.cons (P:=_) (W1.imp (P:={N:=fun ρ'=>ρ'= [.im (.lst (ns.map .int)), .im fl.d, .im (.int mn), .im (rT r1), .im (rT r2), .im (.int md), .im (.int (cn:Int)), .im (m_ (JO cn r1 r2))],R:=fun _=>False}) (W1.ite (ju.t (ju.and (cU.cI .eq (nm 6 rfl rfl) aw.int) fun _=>ju.and1 (cU.ne hu4 (aw.r (aw.call G8 hr1 (aX nx) rfl r1 (aY.cons (nm 3 rfl rfl) aY.nil) p1 rfl)) (aw.r (aw.call G8 hr1 (aX nx) rfl r2 (aY.cons (nm 4 rfl rfl) aY.nil) p2 rfl)) (oN 59 _) (oN 59 _)))) (fun h=> ?_) fun h=>WS.nil ?_) ?_ (fun _ z=>z.elim) (fun _ z=>z.elim) fun _ z=>z.elim)
 ·rw [qN,bJ]at h
  have h1:cn=2:=by have:=of_decide_eq_true h.1; omega
  have h2:n9 r1.flatten≠n9 r2.flatten:=by simpa using h.2
  refine WS.one (W1.set (i:=7) px rfl (.inl rfl) (gV rfl) (aw.call G7 hr1 (aX nx) rfl 3 (aY.cons aw.int aY.nil) trivial rfl) ?_)
  show _=_
  unfold JO
  rw [if_pos ⟨h1,h2⟩]
  rfl
 ·have hz: ¬(cn=2/\n9 r1.flatten≠n9 r2.flatten):=fun z=>by
   rw [qN,decide_eq_true (show((cn:Nat):Int)=2 by omega),decide_eq_false z.2]at h
   cases h
  show _=_
  unfold JO
  rw [if_neg hz]
 rintro ρ rfl
 refine WS.cons (P:=_) (W1.imp (P:={N:=fun ρ'=>ρ'= [.im (.lst (ns.map .int)), .im fl.d, .im (.int mn), .im (rT r1), .im (rT r2), .im (.int md), .im (.int (cn:Int)), .im (m_ (JJ cn r1 r2))],R:=fun _=>False}) (W1.ite (cU.cI .gt (aw.lenL rfl B.len (aw.r (aw.call G8 hr1 (aX nx) rfl r1 (aY.cons (nm 3 rfl rfl) aY.nil) p1 rfl))) aw.int) (fun h=> ?_) fun h=>WS.nil ?_) ?_ (fun _ z=>z.elim) (fun _ z=>z.elim) fun _ z=>z.elim)
 ·rw [ae,qG]at h
  have h':=of_decide_eq_true h
  refine WS.one (W1.set (i:=7) px rfl (.inl rfl) (gV rfl) (aw.call G7 hr1 (aX nx) rfl 4 (aY.cons aw.int aY.nil) trivial rfl) ?_)
  show _=_
  unfold JJ
  rw [if_neg (by omega)]
  rfl
 ·rw [ae,qG]at h
  have h':=of_decide_eq_false h
  show _=_
  unfold JJ
  rw [if_pos (by omega)]
 rintro ρ rfl
 refine WS.cons (P:=_) (W1.imp (P:={N:=fun ρ'=>ρ'= [.im (.lst (ns.map .int)), .im fl.d, .im (.int mn), .im (rT r1), .im (rT r2), .im (.int md), .im (.int (cn:Int)), .im (m_ (sH cn fl r1 r2))],R:=fun _=>False}) (W1.ite (ju.t (ju.or (cU.not (cU.val (aw.call G4 hr1 (aX nx) rfl (fl,true,r1) (aY.cons (nm 1 rfl rfl) (aY.cons (nm 3 rfl rfl) aY.nil)) q1 rfl))) fun _=>ju.or1 (ju.t (ju.and (cU.cI .eq (nm 6 rfl rfl) aw.int) fun _=>ju.and1 (cU.not (cU.val (aw.call G4 hr1 (aX nx) rfl (fl,true,r2) (aY.cons (nm 1 rfl rfl) (aY.cons (nm 4 rfl rfl) aY.nil)) q2 rfl))))))) (fun h=> ?_) fun h=>WS.nil ?_) ?_ (fun _ z=>z.elim) (fun _ z=>z.elim) fun _ z=>z.elim)
 ·refine WS.one (W1.set (i:=7) px rfl (.inl rfl) (gV rfl) (aw.call G7 hr1 (aX nx) rfl 1 (aY.cons aw.int aY.nil) trivial rfl) ?_)
  have hz:(good fl r1&&(decide (cn≠2) || good fl r2))=false:=by
   have e2:decide ((cn:Int)=2)=decide (cn=2):=decide_eq_decide.mpr (by omega)
   rw [show(fl,true,r1).1=fl from rfl]at h
   dsimp only at h
   rw [e2]at h
   by_cases h2:cn=2
   ·cases x1:good fl r1 <;> cases x2:good fl r2 <;> simp_all
   ·cases x1:good fl r1 <;> simp_all
  show _=_
  rw [Gk,if_neg (by rw [hz]; exact aF)]
  rfl
 ·have hz:(good fl r1&&(decide (cn≠2) || good fl r2))=true:=by
   have e2:decide ((cn:Int)=2)=decide (cn=2):=decide_eq_decide.mpr (by omega)
   dsimp only at h
   rw [e2]at h
   by_cases h2:cn=2
   ·cases x1:good fl r1 <;> cases x2:good fl r2 <;> simp_all
   ·cases x1:good fl r1 <;> simp_all
  show _=_
  rw [Gk,if_pos hz]
 rintro ρ rfl
 have hS:gD fl (pk fl.jx):=⟨hF,bE (GQ _) hF.mw,fun p=>uQ p _⟩
 refine WS.one (W1.ret (aw.eq hu4 (aw.r (aw.call (d:=m_ (sH cn fl r1 r2)) G6 hr (aX nx) rfl (cn,fl,pk fl.jx,r1,r2) (aY.cons (nm 6 rfl rfl) (aY.cons (JP.exact (d:=i7 C fl (pk fl.jx)) (Vb (i:=fl) G5 hr6 (aX nx) rfl (aY.cons (aw.ixT (nm 1 rfl rfl) aw.int rfl) (aY.cons (aw.ixT (nm 1 rfl rfl) aw.int rfl) (aY.cons (aw.ixT (nm 1 rfl rfl) aw.int rfl) (aY.cons (eJ.toD (eJ.listL rfl B.list (aw.r (aw.ixT (nm 1 rfl rfl) aw.int rfl)))) aY.nil)))) hF) fun d' ⟨ds,e1,qs,e2,e3⟩=>by subst e1 e2 e3; rfl) (aY.cons (nm 3 rfl rfl) (aY.cons (nm 4 rfl rfl) aY.nil)))) ⟨hcn,hS,⟨by show r1.flatten.length<=1000; omega,by show r1.length<=1000; omega⟩,⟨by show r2.flatten.length<=1000; omega,by show r2.length<=1000; omega⟩⟩ rfl)) (aw.r (nm 7 rfl rfl)) (pY _) (pY _)) ?_)
 show D.bl (D.eqv _ _)=D.bl true
 rw [FH (pY _)]
end
theorem all_mk{l:La}{w:World}{K:Frag}{h:Heap}{mg:Str->Option Value}{fa:Addr}(KX:K.In h)(G:h.Ns ax mg)(hfa:mg "law"=some (.ref fa))
  {b_:Addr}
  {gf:Addr}
  {mH:Addr}
  {bz:Addr}
  {oy:Addr}
  {bF:Addr}
  {cb:Addr}
  {mI:Addr}
  {mJ:Addr}
  {mK:Addr}
  {f0 f1 f2 f3 f4 f5 f6 f7 f8 f9 Pe Pf Pg Ph Pj Pk Pl Pm Pn Po Pp Pq Pr Pt Pu Pw Px Py Pz PB qU oz oA oB oC:Addr}{Vf Vg Vh Vi od2 Vj Vk Vl Vm Vn Vo Vp Vq Vr Vs Vt Vu Vv Vw Vx PC PD PH PJ PK PL PM PN PQ PU PV PX PY PZ P0 P1 P2 P4 P5 P6 P7 P8 P9 P_ Qa Qb Qc Qd Qe Qf Qg Qh Qi Qj Qk Ql Qm Qn Qo NF DY DZ D_ Ea Eb Ec Ed Ee Ef Eg:Option Addr}{Vy sl1 sl2 Vz VA VB VC VD VE VF Qp Qq Qr Qs Qt Qu Qv Qw Qx Qy Qz QA QB QC QD QE QF QG QH QI Eh Ei Ej Ek El:Array (Option Value)}{VG VH VI VJ Uy VL VM VN VO VP Uz VQ oc2 VR VS VT UA VU VV VW VX VY UB VZ V0 V1 V2 V3 UC V4 V5 V6 V7 V8 UD V9 V_ Wa Wb Wc UE Wd We Wf Wg Wh UG Wi Wj Wk Wl Wm UH Wn Wo Wq Wr Ws UI Wt QJ QK QL QM NG QN QO QP QQ QR NH QS QT QU QV QW NI QX QY QZ Q0 Q1 NJ Q2 Q3 Q4 Q5 Q6 NK Q7 Q8 Q9 Q_ Ra NL Rb Rc Rf Rg Rh NM Ri Rj Rk Rl Rm NN Rn Ro Rq Rr Rt NO Ru Rv Rw Rx Ry NP Rz RA RB RC RD NQ RE RF RG RH RJ NR RK RL RM RN RO NS RP RQ RS RT RU NT RV RW RX RY RZ NU R0 R_ Sd Se Sf NV Sg Sh Si Sj Sk NW Sm Sn So Sq Sr NY Ss Su Sv Sw Sz NZ SA SD N1 N2 N3 Mv N4 Em Eo Ep Er xc Es Et Eu Ew Ex xf Ey Ez EA EB EC xg ED EE EF EG EH xh EI EJ EK EL EN xi ER:Value}
  {nO:Value}
  {pK:Value}
  {nP:Value}
  {lx:Value}
  {nQ:Value}
  {lA:Value}
  {sA:Value}
  {pL:Value}
  {qV:Value}
  {pM:Value}
  (uZ:aD K ax "Floor"=some (some (.ref b_)))
  (a0:aD K ax "_law_cell_at"=some (some (.ref f0)))
  (l0:K.lookup f0=some ⟨VG,Vf, .func (aU "_law_cell_at" "_law_cell_at" (bZ wC) (aP wC) (aE wC) .none VH VI VJ Vg Uy VL),Vy⟩)
  (c0:aQ K Uy "_law_cell_at"=true)
  (k0:aK K (.ref f0)=true)
  (a1:aD K ax "_law_floor"=some (some (.ref f1)))
  (l1:K.lookup f1=some ⟨VM,Vh, .func (aU "_law_floor" "_law_floor" (bZ rS) (aP rS) (aE rS) .none VN VO VP Vi Uz VQ),sl1⟩)
  (c1:aQ K Uz "_law_floor"=true)
  (k1:aK K (.ref f1)=true)
  (a2:aD K ax "_law_good"=some (some (.ref f2)))
  (l2:K.lookup f2=some ⟨oc2,od2, .func (aU "_law_good" "_law_good" (bZ wL) (aP wL) (aE wL) .none VR VS VT Vj UA VU),sl2⟩)
  (c2:aQ K UA "_law_good"=true)
  (k2:aK K (.ref f2)=true)
  (a3:aD K ax "_law_standing"=some (some (.ref f3)))
  (l3:K.lookup f3=some ⟨VV,Vk, .func (aU "_law_standing" "_law_standing" (bZ jr) (aP jr) (aE jr) .none VW VX VY Vl UB VZ),Vz⟩)
  (c3:aQ K UB "_law_standing"=true)
  (k3:aK K (.ref f3)=true)
  (a4:aD K ax "is_within"=some (some (.ref f4)))
  (l4:K.lookup f4=some ⟨V0,Vm, .func (aU "is_within" "is_within" (bZ o4) (aP o4) (aE o4) .none V1 V2 V3 Vn UC V4),VA⟩)
  (c4:aQ K UC "is_within"=true)
  (k4:aK K (.ref f4)=true)
  (a5:aD K ax "is_crate"=some (some (.ref f5)))
  (l5:K.lookup f5=some ⟨V5,Vo, .func (aU "is_crate" "is_crate" (bZ rq) (aP rq) (aE rq) .none V6 V7 V8 Vp UD V9),VB⟩)
  (c5:aQ K UD "is_crate"=true)
  (k5:aK K (.ref f5)=true)
  (a6:aD K ax "is_ban"=some (some (.ref f6)))
  (l6:K.lookup f6=some ⟨V_,Vq, .func (aU "is_ban" "is_ban" (bZ rJ) (aP rJ) (aE rJ) .none Wa Wb Wc Vr UE Wd),VC⟩)
  (c6:aQ K UE "is_ban"=true)
  (k6:aK K (.ref f6)=true)
  (a7:aD K ax "are_bans"=some (some (.ref f7)))
  (l7:K.lookup f7=some ⟨We,Vs, .func (aU "are_bans" "are_bans" (bZ mG) (aP mG) (aE mG) .none Wf Wg Wh Vt UG Wi),VD⟩)
  (c7:aQ K UG "are_bans"=true)
  (k7:aK K (.ref f7)=true)
  (a8:aD K ax "is_good_stack"=some (some (.ref f8)))
  (l8:K.lookup f8=some ⟨Wj,Vu, .func (aU "is_good_stack" "is_good_stack" (bZ iI) (aP iI) (aE iI) .none Wk Wl Wm Vv UH Wn),VE⟩)
  (c8:aQ K UH "is_good_stack"=true)
  (k8:aK K (.ref f8)=true)
  (a9:aD K ax "is_good"=some (some (.ref f9)))
  (l9:K.lookup f9=some ⟨Wo,Vw, .func (aU "is_good" "is_good" (bZ nz) (aP nz) (aE nz) .none Wq Wr Ws Vx UI Wt),VF⟩)
  (c9:aQ K UI "is_good"=true)
  (k9:aK K (.ref f9)=true)
  (SE:aD K ax "is_stack"=some (some (.ref Pe)))
  (SF:K.lookup Pe=some ⟨QJ,PC, .func (aU "is_stack" "is_stack" (bZ kA) (aP kA) (aE kA) .none QK QL QM PD NG QN),Qp⟩)
  (SG:aQ K NG "is_stack"=true)
  (SH:aK K (.ref Pe)=true)
  (SI:aD K ax "can_be_done"=some (some (.ref Pf)))
  (SJ:K.lookup Pf=some ⟨QO,PH, .func (aU "can_be_done" "can_be_done" (bZ AF) (aP AF) (aE AF) .none QP QQ QR PJ NH QS),Qq⟩)
  (SK:aQ K NH "can_be_done"=true)
  (SM:aK K (.ref Pf)=true)
  (SN:aD K ax "moved"=some (some (.ref Pg)))
  (SO:K.lookup Pg=some ⟨QT,PK, .func (aU "moved" "moved" (bZ pQ) (aP pQ) (aE pQ) .none QU QV QW PL NI QX),Qr⟩)
  (SQ:aQ K NI "moved"=true)
  (SR:aK K (.ref Pg)=true)
  (SS:aD K ax "is_let"=some (some (.ref Ph)))
  (SU:K.lookup Ph=some ⟨QY,PM, .func (aU "is_let" "is_let" (bZ pP) (aP pP) (aE pP) .none QZ Q0 Q1 PN NJ Q2),Qs⟩)
  (SV:aQ K NJ "is_let"=true)
  (SW:aK K (.ref Ph)=true)
  (SX:aD K ax "refuse_unless_good"=some (some (.ref Pj)))
  (SY:K.lookup Pj=some ⟨Q3,PQ, .func (aU "refuse_unless_good" "refuse_unless_good" (bZ lq) (aP lq) (aE lq) .none Q4 Q5 Q6 PU NK Q7),Qt⟩)
  (S0:aQ K NK "refuse_unless_good"=true)
  (S1:aK K (.ref Pj)=true)
  (S2:aD K ax "lifts"=some (some (.ref Pk)))
  (S3:K.lookup Pk=some ⟨Q8,PV, .func (aU "lifts" "lifts" (bZ n_) (aP n_) (aE n_) .none Q9 Q_ Ra PX NL Rb),Qu⟩)
  (S4:aQ K NL "lifts"=true)
  (S5:aK K (.ref Pk)=true)
  (S6:aD K ax "crates_of"=some (some (.ref Pl)))
  (S7:K.lookup Pl=some ⟨Rc,PY, .func (aU "crates_of" "crates_of" (bZ jo) (aP jo) (aE jo) .none Rf Rg Rh PZ NM Ri),Qv⟩)
  (S8:aQ K NM "crates_of"=true)
  (S9:aK K (.ref Pl)=true)
  (S_:aD K ax "refuse_too_many"=some (some (.ref Pm)))
  (Ta:K.lookup Pm=some ⟨Rj,P0, .func (aU "refuse_too_many" "refuse_too_many" (bZ jL) (aP jL) (aE jL) .none Rk Rl Rm P1 NN Rn),Qw⟩)
  (Tb:aQ K NN "refuse_too_many"=true)
  (Tc:aK K (.ref Pm)=true)
  (Td:aD K ax "heights_above"=some (some (.ref Pn)))
  (Te:K.lookup Pn=some ⟨Ro,P2, .func (aU "heights_above" "heights_above" (bZ oq) (aP oq) (aE oq) .none Rq Rr Rt P4 NO Ru),Qx⟩)
  (Tf:aQ K NO "heights_above"=true)
  (Tg:aK K (.ref Pn)=true)
  (Th:aD K ax "lowering_lifts"=some (some (.ref Po)))
  (Ti:K.lookup Po=some ⟨Rv,P5, .func (aU "lowering_lifts" "lowering_lifts" (bZ ot) (aP ot) (aE ot) .none Rw Rx Ry P6 NP Rz),Qy⟩)
  (Tj:aQ K NP "lowering_lifts"=true)
  (Tn:aK K (.ref Po)=true)
  (To:aD K ax "way_down"=some (some (.ref Pp)))
  (Tp:K.lookup Pp=some ⟨RA,P7, .func (aU "way_down" "way_down" (bZ zy) (aP zy) (aE zy) .none RB RC RD P8 NQ RE),Qz⟩)
  (Tq:aQ K NQ "way_down"=true)
  (Tr:aK K (.ref Pp)=true)
  (Ts:aD K ax "come_to"=some (some (.ref Pq)))
  (Tt:K.lookup Pq=some ⟨RF,P9, .func (aU "come_to" "come_to" (bZ jI) (aP jI) (aE jI) .none RG RH RJ P_ NR RK),QA⟩)
  (Tu:aQ K NR "come_to"=true)
  (Tv:aK K (.ref Pq)=true)
  (Tw:aD K ax "heights"=some (some (.ref Pr)))
  (Tz:K.lookup Pr=some ⟨RL,Qa, .func (aU "heights" "heights" (bZ iA) (aP iA) (aE iA) .none RM RN RO Qb NS RP),QB⟩)
  (TB:aQ K NS "heights"=true)
  (TC:aK K (.ref Pr)=true)
  (TF:aD K ax "plan"=some (some (.ref Pt)))
  (TH:K.lookup Pt=some ⟨RQ,Qc, .func (aU "plan" "plan" (bZ ky) (aP ky) (aE ky) .none RS RT RU Qd NT RV),QC⟩)
  (TJ:aQ K NT "plan"=true)
  (TL:aK K (.ref Pt)=true)
  (TM:aD K ax "_law_kind"=some (some (.ref Pu)))
  (TN:K.lookup Pu=some ⟨RW,Qe, .func (aU "_law_kind" "_law_kind" (bZ uf) (aP uf) (aE uf) .none RX RY RZ Qf NU R0),QD⟩)
  (TQ:aQ K NU "_law_kind"=true)
  (TR:aK K (.ref Pu)=true)
  (TU:aD K ax "_law_one"=some (some (.ref Pw)))
  (TV:K.lookup Pw=some ⟨R_,Qg, .func (aU "_law_one" "_law_one" (bZ AQ) (aP AQ) (aE AQ) .none Sd Se Sf Qh NV Sg),QE⟩)
  (TX:aQ K NV "_law_one"=true)
  (TY:aK K (.ref Pw)=true)
  (TZ:aD K ax "_law_kinds"=some (some (.ref Px)))
  (T4:K.lookup Px=some ⟨Sh,Qi, .func (aU "_law_kinds" "_law_kinds" (bZ pT) (aP pT) (aE pT) .none Si Sj Sk Qj NW Sm),QF⟩)
  (T5:aQ K NW "_law_kinds"=true)
  (T6:aK K (.ref Px)=true)
  (T7:aD K ax "_law_crates"=some (some (.ref Py)))
  (T8:K.lookup Py=some ⟨Sn,Qk, .func (aU "_law_crates" "_law_crates" (bZ nB) (aP nB) (aE nB) .none So Sq Sr Ql NY Ss),QG⟩)
  (T9:aQ K NY "_law_crates"=true)
  (T_:aK K (.ref Py)=true)
  (Ua:aD K ax "_law_bad"=some (some (.ref Pz)))
  (Ub:K.lookup Pz=some ⟨Su,Qm, .func (aU "_law_bad" "_law_bad" (bZ AO) (aP AO) (aE AO) .none Sv Sw Sz Qn NZ SA),QH⟩)
  (Uc:aQ K NZ "_law_bad"=true)
  (Ud:aK K (.ref Pz)=true)
  (Ue:aD K ax "law"=some (some (.ref PB)))
  (Ug:K.lookup PB=some ⟨SD,Qo, .func (aU "law" "law" (bZ we) (aP we) (aE we) .none N1 N2 N3 NF Mv N4),QI⟩)
  (Uh:aQ K Mv "law"=true)
  (Ui:aK K (.ref PB)=true)
  (u0:br K (.ref b_) "__init__"=some (some (.ref qU)))
  (u4:jA K (.ref qU)=true)
  (u6:K.lookup qU=some ⟨Em,DY, .func (aU "__init__" "Floor.__init__" (bZ sj) (aP sj) (aE sj) .none Eo Ep Er DZ xc Es),Eh⟩)
  (u7:aQ K xc "Floor.__init__"=true)
  (u9:aK K (.ref qU)=true)
  (u_:br K (.ref b_) "stacks"=some (some (.ref oz)))
  (va:jA K (.ref oz)=true)
  (vb:K.lookup oz=some ⟨Et,D_, .func (aU "stacks" "Floor.stacks" (bZ (tj 1)) (aP (tj 1)) (aE (tj 1)) .none Eu Ew Ex Ea xf Ey),Ei⟩)
  (vc:aQ K xf "Floor.stacks"=true)
  (qW:aK K (.ref oz)=true)
  (vd:br K (.ref b_) "height"=some (some (.ref oA)))
  (vf:jA K (.ref oA)=true)
  (vg:K.lookup oA=some ⟨Ez,Eb, .func (aU "height" "Floor.height" (bZ (tj 2)) (aP (tj 2)) (aE (tj 2)) .none EA EB EC Ec xg ED),Ej⟩)
  (vh:aQ K xg "Floor.height"=true)
  (qX:aK K (.ref oA)=true)
  (vi:br K (.ref b_) "lift"=some (some (.ref oB)))
  (vj:jA K (.ref oB)=true)
  (vk:K.lookup oB=some ⟨EE,Ed, .func (aU "lift" "Floor.lift" (bZ (tj 3)) (aP (tj 3)) (aE (tj 3)) .none EF EG EH Ee xh EI),Ek⟩)
  (vm:aQ K xh "Floor.lift"=true)
  (qY:aK K (.ref oB)=true)
  (vn:br K (.ref b_) "bans"=some (some (.ref oC)))
  (vo:jA K (.ref oC)=true)
  (vp:K.lookup oC=some ⟨EJ,Ef, .func (aU "bans" "Floor.bans" (bZ (tj 4)) (aP (tj 4)) (aE (tj 4)) .none EK EL EN Eg xi ER),El⟩)
  (vq:aQ K xi "Floor.bans"=true)
  (qZ:aK K (.ref oC)=true)
  (vr:nU K b_ Str.empty=true)
  (vt:sS K b_=true)
  (vw:IU K b_=true)
  (vx:br K (.ref b_) "__setattr__"=some (some (.builtin "object.__setattr__")))
  (vy:K_ K b_=true)
  (vz:aK K (.ref b_)=true)
  (ie:br K (.ref b_) "stack_count"=some none)
  (ig:br K (.ref b_) "most_crates"=some none)
  (gg:br K (.ref b_) "crane_strength"=some none)
  (g_:br K (.ref b_) "banned_pairs"=some none)
  (lH:aD K ax "CraneError"=some (some (.ref gf)))
  (qa:aD K ax "NoFloor"=some (some (.ref mH)))
  (lI:aD K ax "NoStanding"=some (some (.ref bz)))
  (rV:aD K ax "NoLift"=some (some (.ref oy)))
  (kB:aD K ax "OtherCrates"=some (some (.ref bF)))
  (qb:aD K ax "TooMany"=some (some (.ref cb)))
  (qc:aD K ax "NoNames"=some (some (.ref mI)))
  (qd:aD K ax "NoOrder"=some (some (.ref mJ)))
  (qe:aD K ax "BadText"=some (some (.ref mK)))
  (jK:fi K bz Bg "ValueError.__new__"=true)
  (i8:fi K bF Bg "ValueError.__new__"=true)
  (nC:fi K cb Bg "ValueError.__new__"=true)
  (iC:fi K gf Bg "ValueError.__new__"=true)
  (iD:eM K gf (.type "BaseException")=some true)
  (nl:MN K=true)
  (lJ:eM K bz (.ref gf)=some true)
  (lK:br K (.ref bz) "__class__"=some (some (.builtin "object.__class__")))
  (lL:br K (.ref bz) "__getattribute__"=some (some (.builtin "BaseException.__getattribute__")))
  (lM:br K (.ref bz) "__getattr__"=some none)
  (lN:eM K bz (.type "object")=some true)
  (lO:PySem.W.subIn K (.ref bz) (.type "BaseException")=some true)
  (lP:(rf K bz).isSome=true)
  (gG:aZ K (.ref bz) (.ref mH)=some false)
  (fF:aZ K (.ref bz) (.ref bz)=some true)
  (hG:aZ K (.ref bz) (.ref oy)=some false)
  (fq:aZ K (.ref bz) (.ref bF)=some false)
  (gH:aZ K (.ref bz) (.ref cb)=some false)
  (gI:aZ K (.ref bz) (.ref mI)=some false)
  (gJ:aZ K (.ref bz) (.ref mJ)=some false)
  (gK:aZ K (.ref bz) (.ref mK)=some false)
  (lQ:aZ K (.ref bz) (.type "ValueError")=some true)
  (kC:eM K bF (.ref gf)=some true)
  (kF:br K (.ref bF) "__class__"=some (some (.builtin "object.__class__")))
  (kG:br K (.ref bF) "__getattribute__"=some (some (.builtin "BaseException.__getattribute__")))
  (kH:br K (.ref bF) "__getattr__"=some none)
  (kI:eM K bF (.type "object")=some true)
  (kJ:PySem.W.subIn K (.ref bF) (.type "BaseException")=some true)
  (kK:(rf K bF).isSome=true)
  (gi:aZ K (.ref bF) (.ref mH)=some false)
  (ft:aZ K (.ref bF) (.ref bz)=some false)
  (gL:aZ K (.ref bF) (.ref oy)=some false)
  (fb:aZ K (.ref bF) (.ref bF)=some true)
  (gj:aZ K (.ref bF) (.ref cb)=some false)
  (gn:aZ K (.ref bF) (.ref mI)=some false)
  (gq:aZ K (.ref bF) (.ref mJ)=some false)
  (gr:aZ K (.ref bF) (.ref mK)=some false)
  (kL:aZ K (.ref bF) (.type "ValueError")=some true)
  (qf:eM K cb (.ref gf)=some true)
  (qg:br K (.ref cb) "__class__"=some (some (.builtin "object.__class__")))
  (qh:br K (.ref cb) "__getattribute__"=some (some (.builtin "BaseException.__getattribute__")))
  (qi:br K (.ref cb) "__getattr__"=some none)
  (qj:eM K cb (.type "object")=some true)
  (qk:PySem.W.subIn K (.ref cb) (.type "BaseException")=some true)
  (ql:(rf K cb).isSome=true)
  (iJ:aZ K (.ref cb) (.ref mH)=some false)
  (gM:aZ K (.ref cb) (.ref bz)=some false)
  (i9:aZ K (.ref cb) (.ref oy)=some false)
  (gu:aZ K (.ref cb) (.ref bF)=some false)
  (iK:aZ K (.ref cb) (.ref cb)=some true)
  (iL:aZ K (.ref cb) (.ref mI)=some false)
  (iM:aZ K (.ref cb) (.ref mJ)=some false)
  (iN:aZ K (.ref cb) (.ref mK)=some false)
  (qm:aZ K (.ref cb) (.type "ValueError")=some true)
  (Io:aD K ax "len"=some none)
  (yq:aD K ax "range"=some none)
  (Bu:aD K ax "list"=some none)
  (yr:aD K ax "tuple"=some none)
  (Ip:aD K ax "set"=some none)
  (nD:aD K ax "isinstance"=some none)
  (Iq:aD K ax "int"=some none)
  (Bv:aD K ax "bool"=some none)
  (Ir:aD K ax "all"=some none)
  (Iu:aD K ax "any"=some none)
  (Iw:aD K ax "zip"=some none)
  (vA:aD K ax "sorted"=some none)
  (Iy:aD K ax "min"=some none)
  (nE:aD K ax "ValueError"=some none)
  (jW:aD K ax "FEWEST_STACKS"=some (some nO))
  (lR:aD K ax "MOST_STACKS"=some (some pK))
  (jX:aD K ax "LOWEST_HEIGHT"=some (some nP))
  (i_:aD K ax "GREATEST_HEIGHT"=some (some lx))
  (jY:aD K ax "WEAKEST_CRANE"=some (some nQ))
  (ja:aD K ax "STRONGEST_CRANE"=some (some lA))
  (oE:aD K ax "MOST_BANS"=some (some sA))
  (lS:aD K ax "FIRST_CRATE"=some (some pL))
  (nF:aD K ax "LAST_CRATE"=some (some qV))
  (lT:aD K ax "MOST_CRATES"=some (some pM))
  (jZ: ∃t,nO= .int 2 t)
  (lU: ∃t,pK= .int 4 t)
  (j0: ∃t,nP= .int 1 t)
  (jb: ∃t,lx= .int 6 t)
  (j4: ∃t,nQ= .int 1 t)
  (jc: ∃t,lA= .int 3 t)
  (oF: ∃t,sA= .int 20 t)
  (lV: ∃t,pL= .int 0 t)
  (nG: ∃t,qV= .int 9 t)
  (lW: ∃t,pM= .int 4 t):
  ∃fd:bj,(∀(s:ai) (v:Value),xl s fd ⟨[v], []⟩ [("script",v)])/\ ∀base:Heap,K.In base->base.Ns ax mg->nS l.prog w K mg base (g8 l.prog w) 11 fa fd ["script"] (CF K):=by
 have e:=hfa.symm.trans (aS KX G Ue)
 cases e
 have F0:=cX (st:=wC) l0 c0 k0
 have b0:=F0.binds (ps:= ["script","k"]) fun _ _ _ _ _ _ us hl=>by obtain⟨_,_,rfl⟩:=Z.sD us hl; rfl
 have m0:=aS KX G a0
 have F1:=cX (st:=rS) l1 c1 k1
 have b1:=F1.binds (ps:= ["script","first","most"]) fun _ _ _ _ _ _ us hl=>by obtain⟨_,_,_,rfl⟩:=Z.yX us hl; rfl
 have m1:=aS KX G a1
 have F2:=cX (st:=wL) l2 c2 k2
 have b2:=F2.binds (ps:= ["floor","standing"]) fun _ _ _ _ _ _ us hl=>by obtain⟨_,_,rfl⟩:=Z.sD us hl; rfl
 have m2:=aS KX G a2
 have F3:=cX (st:=jr) l3 c3 k3
 have b3:=F3.binds (ps:= ["floor","cell","crates"]) fun _ _ _ _ _ _ us hl=>by obtain⟨_,_,_,rfl⟩:=Z.yX us hl; rfl
 have m3:=aS KX G a3
 have F4:=cX (st:=o4) l4 c4 k4
 have b4:=F4.binds (ps:= ["value","least","most"]) fun _ _ _ _ _ _ us hl=>by obtain⟨_,_,_,rfl⟩:=Z.yX us hl; rfl
 have m4:=aS KX G a4
 have F5:=cX (st:=rq) l5 c5 k5
 have b5:=F5.binds (ps:= ["value"]) fun _ _ _ _ _ _ us hl=>by obtain⟨_,rfl⟩:=Z.sL us hl; rfl
 have m5:=aS KX G a5
 have F6:=cX (st:=rJ) l6 c6 k6
 have b6:=F6.binds (ps:= ["ban"]) fun _ _ _ _ _ _ us hl=>by obtain⟨_,rfl⟩:=Z.sL us hl; rfl
 have m6:=aS KX G a6
 have F7:=cX (st:=mG) l7 c7 k7
 have b7:=F7.binds (ps:= ["bans"]) fun _ _ _ _ _ _ us hl=>by obtain⟨_,rfl⟩:=Z.sL us hl; rfl
 have m7:=aS KX G a7
 have F8:=cX (st:=iI) l8 c8 k8
 have b8:=F8.binds (ps:= ["floor","stack"]) fun _ _ _ _ _ _ us hl=>by obtain⟨_,_,rfl⟩:=Z.sD us hl; rfl
 have m8:=aS KX G a8
 have F9:=cX (st:=nz) l9 c9 k9
 have b9:=F9.binds (ps:= ["floor","standing"]) fun _ _ _ _ _ _ us hl=>by obtain⟨_,_,rfl⟩:=Z.sD us hl; rfl
 have m9:=aS KX G a9
 have UJ:=cX (st:=kA) SF SG SH
 have Wu:=UJ.binds (ps:= ["floor","value"]) fun _ _ _ _ _ _ us hl=>by obtain⟨_,_,rfl⟩:=Z.sD us hl; rfl
 have Wv:=aS KX G SE
 have UK:=cX (st:=AF) SJ SK SM
 have Ww:=UK.binds (ps:= ["floor","standing","lift"]) fun _ _ _ _ _ _ us hl=>by obtain⟨_,_,_,rfl⟩:=Z.yX us hl; rfl
 have Wx:=aS KX G SI
 have UL:=cX (st:=pQ) SO SQ SR
 have Wy:=UL.binds (ps:= ["standing","lift"]) fun _ _ _ _ _ _ us hl=>by obtain⟨_,_,rfl⟩:=Z.sD us hl; rfl
 have Wz:=aS KX G SN
 have UM:=cX (st:=pP) SU SV SW
 have WA:=UM.binds (ps:= ["floor","standing","lift"]) fun _ _ _ _ _ _ us hl=>by obtain⟨_,_,_,rfl⟩:=Z.yX us hl; rfl
 have WB:=aS KX G SS
 have UN:=cX (st:=lq) SY S0 S1
 have WC:=UN.binds (ps:= ["floor","standing"]) fun _ _ _ _ _ _ us hl=>by obtain⟨_,_,rfl⟩:=Z.sD us hl; rfl
 have WD:=aS KX G SX
 have UO:=cX (st:=n_) S3 S4 S5
 have WE:=UO.binds (ps:= ["floor","standing"]) fun _ _ _ _ _ _ us hl=>by obtain⟨_,_,rfl⟩:=Z.sD us hl; rfl
 have WG:=aS KX G S2
 have UP:=cX (st:=jo) S7 S8 S9
 have WH:=UP.binds (ps:= ["standing"]) fun _ _ _ _ _ _ us hl=>by obtain⟨_,rfl⟩:=Z.sL us hl; rfl
 have WI:=aS KX G S6
 have UQ:=cX (st:=jL) Ta Tb Tc
 have WJ:=UQ.binds (ps:= ["standing"]) fun _ _ _ _ _ _ us hl=>by obtain⟨_,rfl⟩:=Z.sL us hl; rfl
 have WK:=aS KX G S_
 have UR:=cX (st:=oq) Te Tf Tg
 have WL:=UR.binds (ps:= ["floor","goal"]) fun _ _ _ _ _ _ us hl=>by obtain⟨_,_,rfl⟩:=Z.sD us hl; rfl
 have WM:=aS KX G Td
 have US:=cX (st:=ot) Ti Tj Tn
 have WN:=US.binds (ps:= ["floor","standing","above"]) fun _ _ _ _ _ _ us hl=>by obtain⟨_,_,_,rfl⟩:=Z.yX us hl; rfl
 have WO:=aS KX G Th
 have UT:=cX (st:=zy) Tp Tq Tr
 have WQ:=UT.binds (ps:= ["floor","start","above"]) fun _ _ _ _ _ _ us hl=>by obtain⟨_,_,_,rfl⟩:=Z.yX us hl; rfl
 have WR:=aS KX G To
 have UU:=cX (st:=jI) Tt Tu Tv
 have WT:=UU.binds (ps:= ["floor","standing"]) fun _ _ _ _ _ _ us hl=>by obtain⟨_,_,rfl⟩:=Z.sD us hl; rfl
 have WU:=aS KX G Ts
 have UW:=cX (st:=iA) Tz TB TC
 have WV:=UW.binds (ps:= ["floor","goal"]) fun _ _ _ _ _ _ us hl=>by obtain⟨_,_,rfl⟩:=Z.sD us hl; rfl
 have WW:=aS KX G Tw
 have UX:=cX (st:=ky) TH TJ TL
 have WX:=UX.binds (ps:= ["floor","start","goal"]) fun _ _ _ _ _ _ us hl=>by obtain⟨_,_,_,rfl⟩:=Z.yX us hl; rfl
 have WY:=aS KX G TF
 have UY:=cX (st:=uf) TN TQ TR
 have WZ:=UY.binds (ps:= ["e"]) fun _ _ _ _ _ _ us hl=>by obtain⟨_,rfl⟩:=Z.sL us hl; rfl
 have W0:=aS KX G TM
 have UZ:=cX (st:=AQ) TV TX TY
 have W2:=UZ.binds (ps:= ["k"]) fun _ _ _ _ _ _ us hl=>by obtain⟨_,rfl⟩:=Z.sL us hl; rfl
 have W3:=aS KX G TU
 have U0:=cX (st:=pT) T4 T5 T6
 have W4:=U0.binds (ps:= ["call","floor","start","goal"]) fun _ _ _ _ _ _ us hl=>by obtain⟨_,_,_,_,rfl⟩:=Z.Om us hl; rfl
 have W5:=aS KX G TZ
 have U1:=cX (st:=nB) T8 T9 T_
 have W6:=U1.binds (ps:= ["standing"]) fun _ _ _ _ _ _ us hl=>by obtain⟨_,rfl⟩:=Z.sL us hl; rfl
 have W7:=aS KX G T7
 have U2:=cX (st:=AO) Ub Uc Ud
 have W8:=U2.binds (ps:= ["standing","cell"]) fun _ _ _ _ _ _ us hl=>by obtain⟨_,_,rfl⟩:=Z.sD us hl; rfl
 have W9:=aS KX G Ua
 have W_:=cX (st:=we) Ug Uh Ui
 have Ah:=cX (st:=sj) u6 u7 u9
 have Iz:=Ah.binds (ps:= ["self","stacks","height","lift","bans"]) fun _ _ _ _ _ _ us hl=>by obtain⟨_,_,_,_,_,rfl⟩:=Z.Ou us hl; rfl
 have Ai:=cX (st:=(tj 1)) vb vc qW
 have IA:=Ai.binds (ps:= ["self"]) fun _ _ _ _ _ _ us hl=>by obtain⟨_,rfl⟩:=Z.sL us hl; rfl
 have IB:Meth K b_ "stacks" oz:=⟨u_,va,qW⟩
 have Aj:=cX (st:=(tj 2)) vg vh qX
 have IC:=Aj.binds (ps:= ["self"]) fun _ _ _ _ _ _ us hl=>by obtain⟨_,rfl⟩:=Z.sL us hl; rfl
 have ID:Meth K b_ "height" oA:=⟨vd,vf,qX⟩
 have Ak:=cX (st:=(tj 3)) vk vm qY
 have IE:=Ak.binds (ps:= ["self"]) fun _ _ _ _ _ _ us hl=>by obtain⟨_,rfl⟩:=Z.sL us hl; rfl
 have IF:Meth K b_ "lift" oB:=⟨vi,vj,qY⟩
 have Al:=cX (st:=(tj 4)) vp vq qZ
 have IG:=Al.binds (ps:= ["self"]) fun _ _ _ _ _ _ us hl=>by obtain⟨_,rfl⟩:=Z.sL us hl; rfl
 have IH:Meth K b_ "bans" oC:=⟨vn,vo,qZ⟩
 have nx:NX (g8 l.prog w):=lG
 have cs: ∀{x:Str} {v:Value} {z:Str},aD K ax x=some (some v)->(∃t,v= .str z t)-> ∃t,mg x=some (.str z t):=fun g ⟨t,e⟩=>⟨t,by rw [aS KX G g,e]⟩
 have ci: ∀{x:Str} {v:Value} {z:Int},aD K ax x=some (some v)->(∃t,v= .int z t)-> ∃t,mg x=some (.int z t):=fun g ⟨t,e⟩=>⟨t,by rw [aS KX G g,e]⟩
 have un: ∀{x:Str},aD K ax x=some none->mg x=none:=fun z=>PySem.W.mg_none_of KX G z
 have II:=aS KX G uZ
 have IJ:A9 K b_:=⟨vr,vt,vw,vx⟩
 have wm:=aS KX G lH
 have Bw:=aS KX G qa
 have pO:=aS KX G lI
 have EU:=aS KX G rV
 have oG:=aS KX G kB
 have vB:=aS KX G qb
 have Bx:=aS KX G qc
 have By:=aS KX G qd
 have Bz:=aS KX G qe
 let cl:Nat->Addr:=fun i=>if i=0 then mH else if i=1 then bz else if i=2 then oy else if i=3 then bF else if i=4 then cb else if i=5 then mI else if i=6 then mJ else mK
 have ET:Nh K mg cl (fun i=>i=1\/i=3\/i=4):=by
  refine⟨Bw,pO,EU,oG,vB,Bx,By,Bz,un nE,fun i j hi hj=> ?_,fun i hi=> ?_,fun i hi=> ?_⟩
  ·rcases hi with rfl | rfl | rfl
   ·match j,hj with
    | 0,_=>exact gG
    | 1,_=>exact fF
    | 2,_=>exact hG
    | 3,_=>exact fq
    | 4,_=>exact gH
    | 5,_=>exact gI
    | 6,_=>exact gJ
    | 7,_=>exact gK
   ·match j,hj with
    | 0,_=>exact gi
    | 1,_=>exact ft
    | 2,_=>exact gL
    | 3,_=>exact fb
    | 4,_=>exact gj
    | 5,_=>exact gn
    | 6,_=>exact gq
    | 7,_=>exact gr
   ·match j,hj with
    | 0,_=>exact iJ
    | 1,_=>exact gM
    | 2,_=>exact i9
    | 3,_=>exact gu
    | 4,_=>exact iK
    | 5,_=>exact iL
    | 6,_=>exact iM
    | 7,_=>exact iN
  ·rcases hi with rfl | rfl | rfl
   ·exact lQ
   ·exact kL
   ·exact qm
  ·rcases hi with rfl | rfl | rfl
   ·exact⟨⟨lK,lL,lM,lN,lO⟩,lP⟩
   ·exact⟨⟨kF,kG,kH,kI,kJ⟩,kK⟩
   ·exact⟨⟨qg,qh,qi,qj,qk⟩,ql⟩
 have B:Bm mg:={len:=un Io,range:=un yq,list:=un Bu,tuple:=un yr,set:=un Ip,s_:=un nD,int:=un Iq,bool:=un Bv,all:=un Ir,any:=un Iu,zip:=un Iw,sorted:=un vA,min:=un Iy,mw:=ci jW jZ,most:=ci lR lU,low:=ci jX j0,great:=ci i_ jb,weak:=ci jY j4,Fu:=ci ja jc,K6:=ci oE oF,fst:=ci lS lV,lst:=ci nF nG}
 have T:Ls K b_:=⟨IJ,ie,ig,gg,g_⟩
 refine⟨aU "law" "law" (bZ we) (aP we) (aE we) .none N1 N2 N3 NF Mv N4,fun s v=> .of_eq rfl,fun base KB GB=> ?_⟩
 have G0:B5 l.prog w K mg base (g8 l.prog w):=I_ B.Mw F0 m0 b0
 have G1:AL l.prog w K mg base (g8 l.prog w):=Gb nx B.Mw G0 F1 m1 b1
 have G2:BR l.prog w K mg base (g8 l.prog w):=Ko nx B.Mw F2 m2 b2
 have G3:rj l.prog w K mg base (g8 l.prog w):=zI nx B.Mw G2 F3 m3 b3
 have G4:oJ l.prog w K mg base (g8 l.prog w):=Dd B F4 m4 b4
 have G5:xB l.prog w K mg base (g8 l.prog w):=HE nx B G4 F5 m5 b5
 have G6:Ba l.prog w K mg base (g8 l.prog w):=GP nx B G5 F6 m6 b6
 have G7:tX l.prog w K mg base (g8 l.prog w):=A3 nx B G6 F7 m7 b7
 have L:Fl l.prog w K mg base (g8 l.prog w) b_:=⟨T,DS T Ai IB IA,DM T Aj ID IC,Jt T Ak IF IE,JT B T Al IH IG⟩
 have GM:GH l.prog w K mg base (g8 l.prog w) b_:=JA nx B T G4 G7 Ah ⟨vy,u0,u4,vz⟩ II Iz
 have G8:pS l.prog w K mg base (g8 l.prog w) b_:=xK nx B L G5 F8 m8 b8
 have G9:tm l.prog w K mg base (g8 l.prog w) b_:=DC nx B L G8 F9 m9 b9
 have Xa:uP l.prog w K mg base (g8 l.prog w) b_:=A7 nx L G4 UJ Wv Wu
 have Xb:LU l.prog w K mg base (g8 l.prog w) b_:=LJ nx B L Xa G4 UK Wx Ww
 have Oj:rP l.prog w K mg base (g8 l.prog w):=HW B UL Wz Wy
 have Xc:Bl l.prog w K mg base (g8 l.prog w) b_:=Gu nx Xb G9 Oj UM WB WA
 have ES:yU "NoStanding" bz mg base:=yh KB pO jK
 have EO:yU "OtherCrates" bF mg base:=yh KB oG i8
 have EM:yU "TooMany" cb mg base:=yh KB vB nC
 have Ol:ku l.prog w K mg base b_ bz:=AS ES G9 UN WD WC
 have Xd:yl l.prog w K mg base b_ bz:=C4 B L Ol Xc UO WG WE
 have GL:xA l.prog w K mg base (g8 l.prog w) b_:=AR Xd
 have U3:o5 l.prog w K mg base (g8 l.prog w):=zW B UP WI WH
 have Uj:ou l.prog w K mg base cb:=AX EM (ci lT lW) B U3 UQ WK WJ
 have Uk:uX l.prog w K mg base (g8 l.prog w) b_:=HN nx B GL Oj UR WM WL
 have Xe:AN l.prog w K mg base (g8 l.prog w) b_:=HK nx B GL Oj US WO WN
 have Xf:Ll l.prog w K mg base (g8 l.prog w) b_:=LX nx B Xe Oj UT WR WQ
 have Xg:xI l.prog w K mg base b_ bz cb:=Dc B Ol Uj Uk UU WU WT
 have Xh:uT l.prog w K mg base b_ bz cb:=Bf B Ol Uj Uk UW WW WV
 have Xi:Fp l.prog w K mg base b_ bz bF cb:=Kt EO B Ol Uj Uk U3 Xf UX WY WX
 have Xj:Gp l.prog w K mg base (g8 l.prog w) cl (fun i=>i=1\/i=3\/i=4):=JD B ET UY W0 WZ
 have Xk:LS l.prog w K mg base (g8 l.prog w):=L7 B UZ W3 W2
 have BL: ∀j,(j=1\/j=3\/j=4)->om (cl j) gf base:=by
  rintro j (rfl | rfl | rfl)
  ·exact uJ KB jK iC lJ iD
  ·exact uJ KB i8 iC kC iD
  ·exact uJ KB nC iC qf iD
 have Xl:AK l.prog w K mg base b_:=Gg (cl:=cl) (raised:=(fun i=>i=1\/i=3\/i=4)) (.inl rfl) (.inr (.inl rfl)) (.inr (.inr rfl)) wm BL Xg Xh Xi Xj U0 W5 W4
 have Xm:yp l.prog w K mg base (g8 l.prog w):=DT B U1 W7 W6
 have Xn:Lp l.prog w K mg base (g8 l.prog w):=Lw U2 W9 W8
 exact Mb B G0 G1 G3 G2 GM Xl Xk Xm Xn W_
end K
open PySem PySem.W PyProof.Rows
def PySem.W.Fast.tw9766889774333834312:Unit:=()
def PySem.W.Fast.tw13325870804990233393:Unit:=()
def PySem.W.Fast.tw13562087801648501860:Unit:=()
def PySem.W.Fast.tw8051915772466580877:Unit:=()
def PySem.W.Fast.tw7026755923655996075:Unit:=()
def PySem.W.Fast.tw15950764316811266032:Unit:=()
def PySem.W.Fast.tw2999455956620399319:Unit:=()
set_option maxRecDepth 100000 in
set_option maxHeartbeats 0 in
theorem PySem.Challenge.cw_cranefloor_k07_what_is_refused_holds : PySem.Challenge.rw_cranefloor_k07_what_is_refused.Holds := by
 w_on; o_law; k_head; (case hw=>w_witness2)
 k_fill
 refine Z.FY (k:=11) (l:=PySem.Challenge.rw_cranefloor_k07_what_is_refused) ⟨rfl,by decide,by decide⟩ rfl rfl (fun w h Y=>PySem.W.kIn_of Y) ?F
 case F=>
  intro w mg fa h KX G hmg
  refine' K.all_mk KX G hmg ?uZ ?a0 ?l0 ?c0 ?k0 ?a1 ?l1 ?c1 ?k1 ?a2 ?l2 ?c2 ?k2 ?a3 ?l3 ?c3 ?k3 ?a4 ?l4 ?c4 ?k4 ?a5 ?l5 ?c5 ?k5 ?a6 ?l6 ?c6 ?k6 ?a7 ?l7 ?c7 ?k7 ?a8 ?l8 ?c8 ?k8 ?a9 ?l9 ?c9 ?k9 ?SE ?SF ?SG ?SH ?SI ?SJ ?SK ?SM ?SN ?SO ?SQ ?SR ?SS ?SU ?SV ?SW ?SX ?SY ?S0 ?S1 ?S2 ?S3 ?S4 ?S5 ?S6 ?S7 ?S8 ?S9 ?S_ ?Ta ?Tb ?Tc ?Td ?Te ?Tf ?Tg ?Th ?Ti ?Tj ?Tn ?To ?Tp ?Tq ?Tr ?Ts ?Tt ?Tu ?Tv ?Tw ?Tz ?TB ?TC ?TF ?TH ?TJ ?TL ?TM ?TN ?TQ ?TR ?TU ?TV ?TX ?TY ?TZ ?T4 ?T5 ?T6 ?T7 ?T8 ?T9 ?T_ ?Ua ?Ub ?Uc ?Ud ?Ue ?Ug ?Uh ?Ui ?u0 ?u4 ?u6 ?u7 ?u9 ?u_ ?va ?vb ?vc ?qW ?vd ?vf ?vg ?vh ?qX ?vi ?vj ?vk ?vm ?qY ?vn ?vo ?vp ?vq ?qZ ?vr ?vt ?vw ?vx ?vy ?vz ?ie ?ig ?gg ?g_ ?lH ?qa ?lI ?rV ?kB ?qb ?qc ?qd ?qe ?jK ?i8 ?nC ?iC ?iD ?nl ?lJ ?lK ?lL ?lM ?lN ?lO ?lP ?gG ?fF ?hG ?fq ?gH ?gI ?gJ ?gK ?lQ ?kC ?kF ?kG ?kH ?kI ?kJ ?kK ?gi ?ft ?gL ?fb ?gj ?gn ?gq ?gr ?kL ?qf ?qg ?qh ?qi ?qj ?qk ?ql ?iJ ?gM ?i9 ?gu ?iK ?iL ?iM ?iN ?qm ?Io ?yq ?Bu ?yr ?Ip ?nD ?Iq ?Bv ?Ir ?Iu ?Iw ?vA ?Iy ?nE ?jW ?lR ?jX ?i_ ?jY ?ja ?oE ?lS ?nF ?lT ?jZ ?lU ?j0 ?jb ?j4 ?jc ?oF ?lV ?nG ?lW
  (case uZ|a0|l0|c0|k0|a1|l1|c1|k1|a2|l2|c2|k2|a3|l3|c3|k3|a4|l4|c4|k4|a5|l5|c5|k5|a6|l6|c6|k6|a7|l7|c7|k7|a8|l8|c8|k8|a9|l9|c9|k9|SE|SF|SG|SH|SI|SJ|SK|SM|SN|SO|SQ|SR|SS|SU|SV|SW|SX|SY|S0|S1|S2|S3|S4|S5|S6|S7|S8|S9|S_|Ta|Tb|Tc|Td|Te|Tf|Tg|Th|Ti|Tj|Tn|To|Tp|Tq|Tr|Ts|Tt|Tu|Tv|Tw|Tz|TB|TC|TF|TH|TJ|TL|TM|TN|TQ|TR|TU|TV|TX|TY|TZ|T4|T5|T6|T7|T8|T9|T_|Ua|Ub|Uc|Ud|Ue|Ug|Uh|Ui|u0|u4|u6|u7|u9|u_|va|vb|vc|qW|vd|vf|vg|vh|qX|vi|vj|vk|vm|qY|vn|vo|vp|vq|qZ|vr|vt|vw|vx|vy|vz|ie|ig|gg|g_|lH|qa|lI|rV|kB|qb|qc|qd|qe=>k_is)
  (case jK|i8|nC|iC=>k_exc)
  (case iD=>k_is)
  (case nl=>kernel_rfl)
  (case lJ|lK|lL|lM|lN|lO=>k_is)
  (case lP|gG|fF|hG|fq|gH|gI|gJ|gK|lQ=>kernel_rfl)
  (case kC|kF|kG|kH|kI|kJ=>k_is)
  (case kK|gi|ft|gL|fb|gj|gn|gq|gr|kL=>kernel_rfl)
  (case qf|qg|qh|qi|qj|qk=>k_is)
  (case ql|iJ|gM|i9|gu|iK|iL|iM|iN|qm=>kernel_rfl)
  (case Io|yq|Bu|yr|Ip|nD|Iq|Bv|Ir|Iu|Iw|vA|Iy|nE|jW|lR|jX|i_|jY|ja|oE|lS|nF|lT=>k_is)
  (case jZ|lU|j0|jb|j4|jc|oF|lV|nG|lW=>exact⟨_,rfl⟩)
