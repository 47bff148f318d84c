import PyProof.Rows.All
import Wide.All
import OpenK.AllK
import Wide.FinOn
import Lean
import PyProof.EqAt
import PyProof.EqKinds
import PyProof.TupleCall
import KE.KStateDown
import PyProof.ExcBaseAll.ValueError
import PyProof.ExcClass3
import PyProof.ExcArgsOwn
import OpenK.Peek
import OpenK.KMake
import OpenK.KDescr
import KE.KIsAll
import OpenK.KOwn
import KE.KNest
import PyProof.ListStr
import PyProof.StrBlock
import KE.KSortTup
import PyProof.Rows.SeqMore2
import PyProof.ListMulRoad
import PyProof.TupleOps
import PySem.Challenge.RW_cranefloor_k09_whole_heights_renamed
set_option Elab.async false
set_option linter.all false
set_option maxRecDepth 100000
open Array renaming length_toList→ak,getElem?_toList→bz,toList_append→cv,getElem?_eq_getElem→cT,getElem?_eq_some_iff→dj,forIn_toList→dM,toList_push→iV,toList_extract→ju,toList_inj→lU,toList_reverse→om,getD_eq_getD_getElem?→u6,mem_of_getElem?→By
open Bool renaming false_ne_true→aC,false_eq_true→aS,and_eq_true→bA,not_true→eN,eq_iff_iff→fe,not_eq_true'→fu,true_and→fF,false_and→fR,and_false→iR,and_eq_false_iff→i8,and_true→jm,or_eq_true→ud
open Classical renaming byContradiction→wQ
open Except renaming ok→sV
open False renaming elim→fD
open ForInStep renaming yield→ik
open Int renaming toNat_natCast→bU,emod_lt_of_pos→eT,emod_nonneg→gn,le_refl→tx
open LawfulBEq renaming eq_of_beq→ou
open LawfulMonad renaming pure_bind→sX
open List renaming length_map→ae,getElem?_eq_getElem→ah,getElem?_map→aj,getD_eq_getElem?_getD→ao,length_append→aw,size_toArray→aB,getElem?_eq_some_iff→aD,length_cons→aH,getElem?_eq_none→aI,mem_singleton→aK,mem_iff_getElem→aN,mem_cons→aO,append_assoc→aP,mem_map→aQ,getElem_mem→aR,mem_of_getElem?→aT,getElem_map→aV,take_append_drop→aX,map_cons→aY,all_eq_true→a8,length_set→bo,length_take→br,mem_append_right→bx,map_append→bD,range→bE,getElem?_cons_succ→bF,mem_append→bI,append_nil→bJ,length_zip→bK,length_drop→bL,mem_cons_self→bO,pairwise_append→bS,length_range→bT,map_map→bV,mem_cons_of_mem→bY,pairwise_cons→b8,pairwise_iff_getElem→cf,forIn_cons→cj,pairwise_map→cp,ext_getElem?→cA,perm_append_comm→cK,flatten_cons→cL,not_mem_nil→c9,mem_range→dh,forIn_nil→dq,take_of_length_le→dw,getElem_drop→dA,getElem_of_mem→dB,length_nil→dC,nodup_cons→d_,drop_of_length_le→eK,take_length→eO,getElem_zip→eP,replicate→eR,getElem?_append_right→eS,length_singleton→eY,getElem?_append_left→fb,mem_append_left→fh,getElem?_set→fm,take_add_one→ft,getElem_take→fy,lookup_cons→fX,mem_of_mem_take→gP,mem_of_mem_drop→gQ,getElem_inj→gW,take_zero→iT,nodup_append→iU,length_replicate→i7,map_snd_zip→jh,take_append_of_le_length→jw,of_mem_zip→jM,filterMap_cons→jR,getElem?_range→jS,all_map→jY,length_eraseIdx_of_lt→kq,drop_eq_getElem_cons→kQ,extract_eq_take_drop→kR,lookup→kY,length→kZ,take_sublist→k7,drop_sublist→k9,map_drop→lI,length_eq_zero_iff→lQ,zipIdx_cons→lS,cons_append→lT,toArray→my,range_succ→mY,getElem?_toArray→nh,getElem?_set_ne→nX,nodup_nil→nZ,drop_zero→n8,reverse_append→oZ,zip_cons_cons→pR,getElem?_take→pV,map_nil→qp,drop_append→sY,drop_append_of_le_length→tw,all_append→ue,zipIdx_nil→ug,getElem?_zip_eq_some→wR,length_erase_of_mem→yM,map_take→yP,getElem?_replicate→yX,eraseIdx_cons_succ→yZ,pairwise_singleton→y7,getElem?_set_self→Ah,map_set→Am,mem_erase_of_ne→CY,getElem?_append→C0,flatten_append→C7,getElem_range→FV,set_cons_succ→FW,all_eq_false→Ge,perm_middle→Ib,map_fst_zip→Ic,mem_flatMap→Ie,prefix_refl→Ig,mem_flatten→Ih,mem_filter→IG,foldl_cons→IM
open List.Pairwise renaming sublist→cV,nil→fk
open List.Perm renaming refl→cR,append_left→dG,trans→jP
open Nat renaming le_refl→ay,ne_of_lt→aF,lt_of_lt_of_le→aZ,le_trans→bj,ne_of_gt→bH,zero_le→bW,lt_succ_of_lt→cB,lt_irrefl→df,lt_succ_self→fU,lt_of_le_of_lt→iB,add_sub_cancel_left→iF,le_of_lt→iN,sub_self→jZ,eq_zero_or_pos→kx,add_assoc→lH,le_of_eq→mq,not_lt_zero→mZ,zero_add→qt,le_of_not_lt→sU,le_succ→tj,le_of_ble_eq_true→Bx,lt_of_succ_lt→Gf,lt_trichotomy→Gh,min_le_right→Ia,min_le_left→IL,min_eq_left→IQ
open Ne renaming symm→ot
open Option renaming isNone_none→pW,isNone_some→pX,map_some→uf
open Option.some renaming inj→aA
open Prod renaming ext_iff→qy,ext→wC
open PyProof.Rows renaming wpS_bind→aE,wpS_pure→aJ,SortSt→cb,seqObj→cg,pendingOf→ck,wpS_forRange→c0,slot_tuple_getitem→dF,wpS_mono→eG,get?_update_seq→ff,callWith_type1→gG,failedOf→gS,listUpdate_at→hW,IntsAre→iQ,step_dedup→jg,SortKind→jv,envOfC→lF,AllBare→ml,wpS_get→mw,wpS_modify→mx,envOfC→o4,wpS_lift→qw,entry_list_sort→uh,slot_list_sort→wK,args_list_sort→wL,subscriptTail_builtinR→Ak,plain_sorted→Ao,entry_sorted→Ap,args_sorted1→Aq,kind_sorted→C1
open PyProof.Rows.F renaming plain_set_update_loop→gY
open PySem renaming wpAny_bind→aa,wpAny_pure→ag,Shared→ai,Program→av,starEach→ax,wpAny_field→aU,wpAny_setField_rec→a9,wpAny_newObj_type→a_,FuncData→bg,wpAny_call_entry→bh,wpAny_holding→bq,Around→bC,wpAny_callSpecial?_slot→bM,wpAny_seqItems→bR,mem_of_lookup→b9,mainGlobals→cm,wpAny_mono→cF,wpAny_ite_split→cG,compareOp→cH,SetTable→cM,swapsWith→cO,Builtin→cP,wpAny_setField→cY,codeAny_builtin→cZ,wpAny_rule→c7,plainId_quiet→dg,bootBuiltins→di,rawInt→dI,DictEntry→dJ,wpAny_isInstance→dO,sizeLine_eq→eL,firstArgMember→eV,IsPair→eW,backTo→e_,wpAny_truthy_bool→fi,wpAny_typeOf→fj,setField→fw,behindInMarks→fE,intKind→fJ,codeAny→f9,wpAny_specialOf→gq,pyNext→gF,wpAny_updateSeq_pair→gR,wpAny_attempt→hV,wpAny_onRaise→h_,wpAny_passesOwn→ig,sysModules→iA,slotAt→iC,unsupported→iE,foldedSetIterable→iO,NameKind→iP,wpAny_pyIter_slot→iW,attributeBase→jk,relabel→jl,binaryOp→jt,letOwnedTupleGo→jL,holding→jW,tupleKind→ke,assign→ko,ItemsAre→kr,wpAny_newTuple→ku,wpAny_pyIter_list→kX,wpAny_letGo→k8,slot_listiter_next→lJ,wpAny_forIn_list→lP,wpAny_askSetting→lR,assignEach→mn,codeAny_mono→mr,wpAny_of_eq→n_,isSubtype_type→og,newExc→oh,isSubtype_stop→oi,loadIfAlive→oj,wpAny_standAt→o5,wpAny_handled→o6,wpAny_newList→o7,wpAny_pyIter_tuple→pP,wpAny_Call_Name_kw→pQ,IsPart→pS,closureFor→pT,callerA→qr,ofAClassStatement→qu,wpAny_dictEntries→qz,PassesOwn→sS,pyIter→sT,wpAny_typeNameOfWhole_itemiter→sZ,wpAny_throw→tq,wpAny_typeNameOfWhole_keyiter→tF,wpAny_execs_nil→uc,wpAny_dictEpoch→ui,getItem→u0,newList→u4,entryOfKey→wy,wpAny_load→wz,bindArgs→wB,reduceHash→wG,wpAny_runValue→wH,raiseNew→wI,wpAny_typeNameOf_itemiter→wU,wpAny_comprehension_free→yK,setSearchFrom→yO,wpAny_typeNameOf_keyiter→yQ,Fin→y6,concat_meets→Ai,wpAny_isOneOf_itemiter→Ar,builtinLookup_eq_fast→Bz,keywordEach→CV,lookup_relabel_local→CW,hashByValue→CZ,wpAny_assign_Name→Gb,wpAny_eqBool_int→HZ,noFill_tuple_add→H_,wpAny_updateSeq→IK,typeLookup_type→IS,Within→K9
open PySem.Around renaming under_plainId→cC,in1_units→gX
open PySem.AutoSeq1 renaming wpAny_loadPart'→cq,sub_tuple_tuple→hG,sub_list_list→Al
open PySem.Builtin.Dict renaming showsAll→nj
open PySem.Builtin.Dict_items renaming ownsTuple→uj
open PySem.Builtin.List renaming listExtendWith→eJ,listSameRef→fG,listTooLong→hJ,listLengthHint→u_,listTouch→An
open PySem.Builtin.Slice renaming slicePlaces→kP,sliceAdjust→wO
open PySem.Builtin.SmallTypes renaming nextOf→aG,ownedTupleIsFree→ba,ownedTupleHandOut→gZ
open PySem.Builtin.Tuple renaming tupleHashOf→fc,tupleExact→lG,tupleItemsOf→wD
open PySem.Calls renaming call_function_entry→kS
open PySem.Data renaming seq→wF
open PySem.F renaming plain_extend_loop→cD,called_set→eU,slot_zip_next→fg,plainAttrs_list→fV,plain_list_iadd→fW,slot_dict_keyiterator_next→iD,slot_tuple_iterator_next→iX,slot_dict_itemiterator_next→o8,args_zip_next_1→qv,slot_tuple_hash→qx,entry_zip_next→sW,entry_proto_collect→u7,plain_proto_collect→u9,excBase_ValueError→wJ,args_tuple_add_2→yH,slot_list_append→yI,type_list_append→yJ,entry_tuple_add→yY,entry_list_iadd→y4,slot_tuple_add→Aj,slot_tuple_lt→Bw
open PySem.Heap renaming get?_push_of_some→af,get?_push_size→ar,lt_size→au,SameBut→aW,size_push→bX,get?_update_other→cS,get?_update_self→cU,ExtBut→tm,get?_none_of_le→CU
open PySem.Heap.SameBut renaming update→bu,refl→bN
open PySem.IsTupleKey renaming inj→n9
open PySem.NameKind renaming free→yL
open PySem.Obj renaming mapSeq→cJ,data_mapFields→f_,mapFields→gw,isFreed_of_fields→i9,cls_mapFields→Gg
open PySem.PassesOwn renaming never→cy
open PySem.PyData renaming depthAll→dD,canLayAll0→dY,eqvAll→eM,canLay0→iS,eqv→jf,depth→jX
open PySem.SetTable renaming insertAt→bZ,below→cQ,Probe→cX,slot→yN,runEnd→IP
open PySem.SetTable.Met renaming empty→pU
open PySem.SetTable.probe renaming go→fv
open PySem.Shared renaming TypeIs→gu,heap→tu
open PySem.Str renaming ofString→dP
open PySem.Value renaming ref→aq,none→bf,type→cz,bool→fC,int→fQ,isInt_shape→kW,str→yW
open PySem.W renaming Frag→aM,findIn→cn,emptyDict→dX,fnOf→eI,nsIn→fx,keepIn→fS,instObj→gj,excIn→ic,mg_of→jn,kia_one→jN,kia_tup→jO,plainGet→lO,codeIn→nY,hasDictIn→qm,isFn→qo,lookIn→wA,plainGet_of→C6,methodObj→Ga,plainOver→Gd,takerIn→IH,makesIn→II,OpenLaw→IJ
open Sum renaming inl→uY,inr→uZ
open True renaming intro→c6
namespace L2
open PySem PySem.Spec PyProof.Rows
abbrev Key:=Sum Int Str
def IE:Key->Value->Bool
 | .inl k,v=>Value.isInt k v
 | .inr x,v=>Value.isStrOf x v
def Lx(w:World):Key->Int
 | .inl k=>hashInt k
 | .inr x=>hashStr w x
theorem e7: ∀{k:Key} {v:Value},IE k v=true->(∃i t,k=uY i/\v=fQ i t)\/(∃x t,k=uZ x/\v=yW x t)
 | .inl i,v,h=>by
  obtain⟨t,e⟩:=kW (k:=i) (v:=v) h
  exact .inl ⟨i,t,rfl,e⟩
 | .inr x,v,h=>by
  obtain⟨t,e⟩:=Value.isStrOf_shape (x:=x) (v:=v) h
  exact .inr ⟨x,t,rfl,e⟩
theorem JZ(a b:Int):decide ((uY a:Key)=uY b)=(a==b):=by
 by_cases e:a=b
 ·subst e; simp
 ·have h: ¬(uY a:Key)=uY b:=fun q=>e (Sum.inl.inj q)
  rw [decide_eq_false h]
  exact(beq_eq_false_iff_ne.mpr e).symm
theorem JT(a b:Str):decide ((uZ a:Key)=uZ b)=decide (a=b):=by
 by_cases e:a=b
 ·subst e; simp
 ·have h: ¬(uZ a:Key)=uZ b:=fun q=>e (Sum.inr.inj q)
  rw [decide_eq_false h,decide_eq_false e]
theorem JX(a:Int)(b:Str):decide ((uY a:Key)=uZ b)=false:=decide_eq_false (fun q=>nomatch q)
theorem JR(a:Str)(b:Int):decide ((uZ a:Key)=uY b)=false:=decide_eq_false (fun q=>nomatch q)
def Bd(prog:av)(w:World):PySem.KeyKind prog w Key where
 is:=IE
 hash:=Lx w
 inj:=fun v a b ha hb=>by
  rcases e7 ha with⟨i,t,rfl,rfl⟩ | ⟨x,t,rfl,rfl⟩
  ·rcases e7 hb with⟨j,u,rfl,e⟩ | ⟨y,u,rfl,e⟩
   ·injection e with e1 _; rw [e1]
   ·exact nomatch e
  ·rcases e7 hb with⟨j,u,rfl,e⟩ | ⟨y,u,rfl,e⟩
   ·exact nomatch e
   ·injection e with e1 _; rw [e1]
 byValue:=fun k v h=>by
  rcases e7 h with⟨i,t,rfl,rfl⟩ | ⟨x,t,rfl,rfl⟩ <;> rfl
 pyHash:=fun hv h=>by
  rcases e7 hv with⟨i,t,rfl,rfl⟩ | ⟨x,t,rfl,rfl⟩
  ·exact wpAny_pyHash_int h
  ·exact wpAny_pyHash_str h
 eqBool:=fun hu hv h=>by
  rcases e7 hu with⟨i,t,rfl,rfl⟩ | ⟨x,t,rfl,rfl⟩
  ·rcases e7 hv with⟨j,u,rfl,rfl⟩ | ⟨y,u,rfl,rfl⟩
   ·rw [JZ]at h; exact HZ h
   ·rw [JX]at h; exact SeqAt.EqAt.int_str i t y u _ _ _ _ h
  ·rcases e7 hv with⟨j,u,rfl,rfl⟩ | ⟨y,u,rfl,rfl⟩
   ·rw [JR]at h; exact SeqAt.EqAt.str_int x t j u _ _ _ _ h
   ·rw [JT]at h; exact wpAny_eqBool_str h
 «strs» :=fun k x t v h=>by
  rcases e7 h with⟨i,u,rfl,e⟩ | ⟨y,u,rfl,e⟩
  ·exact nomatch e
  ·injection e with e1 _
   subst e1
   cases v <;> rfl
end L2
namespace L2
open PySem PySem.Spec PyProof.Rows
inductive V where
 | non | bl (b:Bool) | int (i:Int) | str (x:Str) | byt (b:Array UInt8) | flt (b:UInt64) | ref (a:Addr) | ty (n:String)
 deriving DecidableEq
def RelV:V->Value->Prop
 | .non,u=>u=bf
 | .bl b,u=>u=fC b
 | .int i,u=> ∃t,u=fQ i t
 | .str x,u=> ∃t,u=yW x t
 | .byt b,u=> ∃t,u=Value.bytes b t
 | .flt b,u=> ∃t,u=Value.float b t
 | .ref a,u=>u=aq a
 | .ty n,u=>u=cz n
abbrev Vals:List V->List Value->Prop:=Paired RelV
theorem Vals.length{xs:List V}{us:List Value}(r:Vals xs us):xs.length=us.length:=Paired.length r
theorem Vals.get: ∀{xs:List V} {us:List Value} {i:Nat} {x:V},Vals xs us->xs[i]? =some x-> ∃u,us[i]? =some u/\RelV x u
 | _,_,_,_, .nil,e=>by simp at e
 | _,_,0,_, .cons r _,e=>by simp at e; subst e; exact⟨_,rfl,r⟩
 | _,_,i+1,x, .cons _ t,e=>by
  obtain⟨u,h1,h2⟩:=Vals.get (i:=i) (x:=x) t (by simpa using e)
  exact⟨u,by simpa using h1,h2⟩
theorem Vals.set{x:V}{u:Value}(r:RelV x u): ∀{xs:List V} {us:List Value} (i:Nat),Vals xs us->Vals (xs.set i x) (us.set i u)
 | _,_,_, .nil=> .nil
 | _,_,0, .cons _ t=> .cons r t
 | _,_,i+1, .cons q t=> .cons q (Vals.set r i t)
theorem Vals.append: ∀{xs ys:List V} {us ws:List Value},Vals xs us->Vals ys ws->Vals (xs ++ ys) (us ++ ws)
 | _,_,_,_, .nil,s=>s
 | _,_,_,_, .cons r t,s=> .cons r (Vals.append t s)
theorem Vals.take: ∀{xs:List V} {us:List Value} (n:Nat),Vals xs us->Vals (xs.take n) (us.take n)
 | _,_,0,_=> .nil
 | _,_,_+1, .nil=> .nil
 | _,_,n+1, .cons r t=> .cons r (Vals.take n t)
theorem Vals.drop: ∀{xs:List V} {us:List Value} (n:Nat),Vals xs us->Vals (xs.drop n) (us.drop n)
 | _,_,0,r=>r
 | _,_,_+1, .nil=> .nil
 | _,_,n+1, .cons _ t=>Vals.drop n t
def t_:Option V->Option Value->Prop
 | some v,some u=>RelV v u
 | none,none=>True
 | _,_=>False
def KV{κ:Type}:List (κ×V)->List (κ×Value)->Prop:=Paired fun(p:κ×V) (q:κ×Value)=>p.1=q.1/\RelV p.2 q.2
def kV:Key->V
 | .inl i=> .int i
 | .inr x=> .str x
inductive HO where
 | lst (xs:List V)
 | tup (xs:List V)
 | dK (kvs:List (Key×V)) | dT (kvs:List (List Key×V))
 | set (S:Int->Bool) (n:Nat)
 | ins (C dx:Addr) (fs:List (Str×V))
 | own (x:Addr)
 | xd (fs:List (Str×V))
 | met (f x:Addr)
 | xR (lo hi:Int)
 | frz (o:Obj) (u:HO)
 | tbl (ps:Array Value)
 | ext (φ:Heap->Prop)
abbrev Hp:=Addr->Option HO
def upd(H:Hp)(a:Addr)(o:HO):Hp:=fun b=>if b=a then some o else H b
theorem bG{H:Hp}{a:Addr}{o:HO}:upd H a o a=some o:=by unfold upd; rw [if_pos rfl]
theorem cu{H:Hp}{a b:Addr}{o:HO}(h:b≠a):upd H a o b=H b:=by unfold upd; rw [if_neg h]
theorem fL{H:Hp}{a b:Addr}{o:HO}(h:H a=some o)(h':H b=none):a≠b:=by
 intro e; subst e; rw [h]at h'; cases h'
section
variable (P:av)(w:World)
def fI(H:Hp)(h:Heap)(a:Addr):HO->Prop
 | .lst xs=>xs.length<=sizeLine/\ ∃(its:List Value) (n:Nat),Vals xs its/\h.get? a=some {cls:= .type "list",data:= .seq its.toArray n}
 | .tup xs=>xs.length<=sizeLine/\ ∃its:List Value,Vals xs its/\IsTup h a its.toArray
 | .dK kvs=>kvs.length<=sizeLine/\(a==iA)=false/\ ∃vs,KV kvs vs/\h.DictOf (Bd P w) a vs
 | .dT kvs=>kvs.length<=sizeLine/\(a==iA)=false/\ ∃xs:List (List Key×Addr×Value),
   Paired (fun(p:List Key×V) (q:List Key×Addr×Value)=>p.1=q.1/\H q.2.1=some (.tup (p.1.map kV))/\RelV p.2 q.2.2) kvs xs/\
   ∃o es ep,h.get? a=some o/\o.ExactDict/\o.data= .dict es ep/\es.toList=xs.map (wy (ke (Bd P w)))/\(xs.map (·.1)).Nodup
 | .set S n=>h.SetOf (fJ P w) a S n
 | .ins C dx fs=>H dx=some (.own a)/\fs.length<=1000/\dx≠a/\h.get? a=some (gj C dx)/\
   ∃mA,h.Ns1 dx mA/\(∀f,t_ (fs.lookup f) (mA f))/\K9 mA (fs.map (·.1))
 | .own _=> ∃o,h.get? a=some o
 | .xd fs=> ∃mA,h.Ns1 a mA/\ ∀f,t_ (fs.lookup f) (mA f)
 | .xR lo hi=> ∃t u v,h.get? a=some {cls:= .type "range",data:= .fields #[.int lo t, .int hi u, .int 1 v]}
 | .frz o u=>h.get? a=some o/\fI H h a u
 | .tbl ps=>h.get? a=some {cls:= .none,data:= .fields ps}
 | .met f x=>h.get? a=some (Ga (.ref f) (.ref x))
 | .ext φ=>φ h/\(∃o,h.get? a=some o)/\ ∀h1 h2:Heap,φ h1->(∀o,h1.get? a=some o->h2.get? a=some o)->φ h2
def oq(H:Hp)(h:Heap):Prop:= ∀a o,H a=some o->fI P w H h a o
end
section
variable {P:av}{w:World}{H H':Hp}{h h':Heap}{a:Addr}{o:HO}
theorem fI.lt(x:fI P w H h a o):a < h.objs.size:=by
 cases o with
 | lst xs=>obtain⟨_,_,_,_,e⟩:=x; exact au e
 | tup xs=>obtain⟨_,_,_,p⟩:=x; exact p.lt
 | dK kvs=>obtain⟨_,_,_,_,o,_,_,e,_⟩:=x; exact au e
 | dT kvs=>obtain⟨_,_,_,_,o,_,_,e,_⟩:=x; exact au e
 | set S n=>obtain⟨o,_,_,_,e,_⟩:=x; exact au e
 | ins C dx fs=>obtain⟨_,_,_,e,_⟩:=x; exact au e
 | own y=>obtain⟨_,e⟩:=x; exact au e
 | xd fs=>obtain⟨_,⟨_,_,_,e,_⟩,_⟩:=x; exact au e
 | xR lo hi=>obtain⟨_,_,_,e⟩:=x; exact au e
 | frz ob u=>obtain⟨e,_⟩:=x; exact au e
 | tbl ps=>exact au (show h.get? a=some _ from x)
 | met f y=>exact au (show h.get? a=some _ from x)
 | ext φ=>obtain⟨_,⟨_,e⟩,_⟩:=x; exact au e
theorem Paired.mapP{α β:Type}{F G:α->β->Prop}: ∀{l₁:List α} {l₂:List β},Paired F l₁ l₂->(∀a b,F a b->G a b)->Paired G l₁ l₂
 | _,_, .nil,_=> .nil
 | _,_, .cons r t,f=> .cons (f _ _ r) (Paired.mapP t f)
theorem fI.stay(x:fI P w H h a o)(k: ∀b u,(b=a\/H b=some (.own a))->h.get? b=some u->h'.get? b=some u)
  (ho: ∀b,H b=some (.own a)->H' b=some (.own a))(ht: ∀b xs,H b=some (.tup xs)->H' b=some (.tup xs)):fI P w H' h' a o:=by
 induction o with
 | lst xs=>obtain⟨z,its,n,r,e⟩:=x; exact⟨z,its,n,r,k _ _ (.inl rfl) e⟩
 | tup xs=>obtain⟨z,its,r,ob,e,c⟩:=x; exact⟨z,its,r,ob,k _ _ (.inl rfl) e,c⟩
 | dK kvs=>obtain⟨z,y,vs,r,ob,es,ep,e,c⟩:=x; exact⟨z,y,vs,r,ob,es,ep,k _ _ (.inl rfl) e,c⟩
 | dT kvs=>
  obtain⟨z,y,xs,r,ob,es,ep,e,c⟩:=x
  exact⟨z,y,xs,Paired.mapP r fun p q z=>⟨z.1,ht _ _ z.2.1,z.2.2⟩,ob,es,ep,k _ _ (.inl rfl) e,c⟩
 | set S n=>obtain⟨ob,es,ep,t,e,c⟩:=x; exact⟨ob,es,ep,t,k _ _ (.inl rfl) e,c⟩
 | ins C dx fs=>
  obtain⟨d,z,ne,e,mA,⟨od,es,ep,e2,c⟩,r⟩:=x
  exact⟨ho _ d,z,ne,k _ _ (.inl rfl) e,mA,⟨od,es,ep,k _ _ (.inr d) e2,c⟩,r⟩
 | own y=>obtain⟨ob,e⟩:=x; exact⟨ob,k _ _ (.inl rfl) e⟩
 | xd fs=>obtain⟨mA,⟨od,es,ep,e,c⟩,r⟩:=x; exact⟨mA,⟨od,es,ep,k _ _ (.inl rfl) e,c⟩,r⟩
 | xR lo hi=>obtain⟨t,u,v,e⟩:=x; exact⟨t,u,v,k _ _ (.inl rfl) e⟩
 | frz ob u ih=>obtain⟨e,q⟩:=x; exact⟨k _ _ (.inl rfl) e,ih q⟩
 | tbl ps=>
  have e:h.get? a=some {cls:= .none,data:= .fields ps}:=x
  show h'.get? a=some {cls:= .none,data:= .fields ps}
  exact k a _ (.inl rfl) e
 | met f y=>
  have e:h.get? a=some (Ga (.ref f) (.ref y)):=x
  show h'.get? a=some (Ga (.ref f) (.ref y))
  exact k a _ (.inl rfl) e
 | ext φ=>obtain⟨p,⟨o,e⟩,st⟩:=x; exact⟨st _ _ p fun o q=>k _ _ (.inl rfl) q,⟨o,k _ _ (.inl rfl) e⟩,st⟩
theorem oq.lt(x:oq P w H h)(e:H a=some o):a < h.objs.size:=(x a o e).lt
theorem oq.fresh(x:oq P w H h)(e:h.objs.size<=a):H a=none:=by
 cases q:H a with
 | none=>rfl
 | some u=>exact absurd (aZ (x.lt q) e) (df _)
theorem oq.kept(x:oq P w H h)(k: ∀b u,h.get? b=some u->h'.get? b=some u):oq P w H h':=fun a o e=>
 (x a o e).stay (fun b u _ q=>k b u q) (fun _ q=>q) fun _ _ q=>q
theorem oq.laid(x:oq P w H h)(k: ∀b u,h.get? b=some u->h'.get? b=some u)(hp:h.objs.size<=a)(new:fI P w (upd H a o) h' a o):oq P w (upd H a o) h':=fun b u e=>by
 have hn:=x.fresh hp
 by_cases hb:b=a
 ·subst hb; rw [bG]at e; cases e; exact new
 ·rw [cu hb]at e
  exact(x b u e).stay (fun c v _ q=>k c v q) (fun c q=>by rw [cu (fL q hn)]; exact q) fun c xs q=>by rw [cu (fL q hn)]; exact q
end
def Rd(H:Hp)(a:Addr)(u:HO):Prop:=H a=some u\/ ∃o,H a=some (.frz o u)
theorem Rd.ok{P:av}{w:World}{H:Hp}{h:Heap}{a:Addr}{u:HO}(r:Rd H a u)(x:oq P w H h):fI P w H h a u:=by
 rcases r with r | ⟨o,r⟩
 ·exact x a u r
 ·obtain⟨_,q⟩:=x a _ r
  exact q
def Lh:Option HO->Prop
 | some (.lst _)=>True
 | some (.dK _)=>True
 | some (.dT _)=>True
 | some (.set _ _)=>True
 | some (.ins _ _ _)=>True
 | some (.ext _)=>True
 | _=>False
section
variable {P:av}{w:World}{H:Hp}{h h':Heap}{x e:Addr}{o':HO}
theorem oq.write(ok:oq P w H h)(mu:Lh (H x))(he:e=x\/H e=some (.own x))(k: ∀b u,b≠e->h.get? b=some u->h'.get? b=some u)(heo: ∃u,h'.get? e=some u)
  (new:fI P w (upd H x o') h' x o'):oq P w (upd H x o') h':=fun b u q=>by
 have nown: ∀c y,H c=some (.own y)->c≠x:=fun c y r z=>by subst z; rw [r]at mu; exact mu
 have ntup: ∀c xs,H c=some (.tup xs)->c≠x:=fun c xs r z=>by subst z; rw [r]at mu; exact mu
 by_cases hb:b=x
 ·subst hb; rw [bG]at q; cases q; exact new
 ·rw [cu hb]at q
  by_cases hbe:b=e
  ·have q':H b=some (.own x):=by
    rcases he with z | z
    ·exact absurd (hbe.trans z) hb
    ·rw [hbe]; exact z
   rw [q]at q'; cases q'
   obtain⟨v,hv⟩:=heo
   exact⟨v,by rw [hbe]; exact hv⟩
  ·refine(ok b u q).stay (fun c v hc r=>k c v ?_ r) (fun c r=>by rw [cu (nown c b r)]; exact r) fun c xs r=>by rw [cu (ntup c xs r)]; exact r
   rcases hc with rfl | hc
   ·exact hbe
   ·rintro rfl
    rcases he with z | z
    ·exact nown c b hc z
    ·rw [hc]at z; cases z; exact hb rfl
end
structure Un(fs ex:List Addr)(H H':Hp)(h h':Heap):Prop where
 keep: ∀b o,h.get? b=some o->H b=none->b∉fs->b∉ex->h'.get? b=some o
 slot: ∀b o,h.get? b=some o->H b=none->b∈fs->b∉ex-> ∃sl,h'.get? b=some {o with slots:=sl}
 free: ∀b o,h.get? b=some o->H b=none->b∉ex->H' b=none
 there: ∀b o,h.get? b=some o->b∉ex-> ∃o',h'.get? b=some o'
 wm: ∀b xs,H b=some (.tup xs)->H' b=some (.tup xs)
 tO: ∀b o u,H b=some (.frz o u)->H' b=some (.frz o u)
 vF: ∀b ps,H b=some (.tbl ps)-> ∃more,H' b=some (.tbl (ps ++ more))
section
variable {fs fs' ex ex':List Addr}{H H1 H2:Hp}{h h1 h2 h':Heap}{a x e:Addr}{o:HO}
theorem Un.any(u:Un fs ex H H1 h h1){b:Addr}{ob:Obj}(q:h.get? b=some ob)(n:H b=none)(hx:b∉ex): ∃sl,h1.get? b=some {ob with slots:=sl}:=by
 by_cases hb:b∈fs
 ·exact u.slot b ob q n hb hx
 ·exact⟨ob.slots,u.keep b ob q n hb hx⟩
theorem Un.kept(k: ∀b u,h.get? b=some u->h'.get? b=some u):Un fs ex H H h h':=
 ⟨fun b ob q _ _ _=>k b ob q,fun b ob q _ _ _=>⟨ob.slots,k b ob q⟩,fun _ _ _ n _=>n,fun b ob q _=>⟨ob,k b ob q⟩,fun _ _ q=>q,fun _ _ _ q=>q,fun _ ps q=>⟨#[],by rw [q]; simp⟩⟩
theorem Un.refl:Un fs ex H H h h:=Un.kept fun _ _ q=>q
theorem Un.laid(k: ∀b u,h.get? b=some u->h'.get? b=some u)(hp:h.objs.size<=a)(hn:H a=none):Un fs ex H (upd H a o) h h' where
 keep:=fun b u q _ _ _=>k b u q
 slot:=fun b u q _ _ _=>⟨u.slots,k b u q⟩
 free:=fun b u q n _=>by rw [cu (aF (aZ (au q) hp))]; exact n
 there:=fun b u q _=>⟨u,k b u q⟩
 wm:=fun b xs q=>by rw [cu (fL q hn)]; exact q
 tO:=fun b u xs q=>by rw [cu (fL q hn)]; exact q
 vF:=fun b ps q=>⟨#[],by rw [cu (fL q hn),q]; simp⟩
theorem Un.write(mu:Lh (H x))(he:e=x\/H e=some (.own x))(k: ∀b u,b≠e->h.get? b=some u->h'.get? b=some u)(heo: ∃u,h'.get? e=some u):Un fs ex H (upd H x o) h h':=by
 have hx: ∀b,H b=none->b≠x:=fun b n z=>by subst z; rw [n]at mu; exact mu
 have hb: ∀b,H b=none->b≠e:=fun b n z=>by
  subst z
  rcases he with r | r
  ·exact hx b n r
  ·rw [n]at r; cases r
 have hm: ∀b u,H b=some u-> ¬Lh (some u)->b≠x:=fun b u q nm z=>by subst z; rw [q]at mu; exact nm mu
 refine⟨fun b u q n _ _=>k b u (hb b n) q,fun b u q n _ _=>⟨u.slots,k b u (hb b n) q⟩,fun b u q n _=>by rw [cu (hx b n)]; exact n,fun b u q _=> ?_,
  fun b xs q=>by rw [cu (hm b _ q fun z=>z)]; exact q,fun b u xs q=>by rw [cu (hm b _ q fun z=>z)]; exact q,fun b ps q=>⟨#[],by rw [cu (hm b _ q fun z=>z),q]; simp⟩⟩
 by_cases hbe:b=e
 ·subst hbe; exact heo
 ·exact⟨u,k b u hbe q⟩
end
def K_(h:Heap)(H:Hp):List Addr:=(bE h.objs.size).filter fun a=>(H a).isSome
def wq(h:Heap)(H:Hp):Heap:=PySem.W.hideAll h (K_ h H)
theorem Ck(h:Heap)(H:Hp):(wq h H).objs.size=h.objs.size:=PySem.W.hideAll_size _ _
theorem Eb{h:Heap}{H:Hp}{b:Addr}{o:Obj}(e:h.get? b=some o)(n:H b=none):(wq h H).get? b=some o:=
 PySem.W.hideAll_get _ e fun hm=>by
  have q:(H b).isSome=true:=(IG.mp hm).2
  rw [n]at q; simp at q
theorem GQ{h:Heap}{H:Hp}{b:Addr}{o:Obj}(e:(wq h H).get? b=some o):h.get? b=some o/\H b=none:=by
 have e':h.get? b=some o:=PySem.W.of_hideAll (K_ h H) e
 refine⟨e', ?_⟩
 cases q:H b with
 | none=>rfl
 | some x=>
  have hm:b∈K_ h H:=IG.mpr ⟨dh.mpr (au e'),by simp [q]⟩
  have z:(wq h H).get? b=none:=PySem.W.hideAll_none (K_ h H) hm
  rw [z]at e; cases e
def HB(g h:Heap)(L:Addr):List (Addr×Obj):=(bE h.objs.size).filterMap fun a=>if a=L\/(g.get? a).isSome=true then none else(h.get? a).map fun o=>(a,o)
def rest(g h:Heap)(L d:Addr):List (Addr×Obj):=(HB g h L).filter fun p=>decide (p.1≠d)
end L2
namespace L2
open PySem PySem.Spec PyProof.Rows
structure Mod(K:aM)(mg:Str->Option Value)(base:Heap):Prop where
 Cj:K.In base
 glob:base.Ns cm mg
 blt: ∃mb,base.Ns builtinsNs mb/\ ∀x:Str,x≠"__name__"->mb x=di x
 nolimit:base.NoLimit
structure Cx where
 prog:av
 w:World
 K:aM
 mg:Str->Option Value
 base:Heap
 A:bC
 N:List Str
 s₀:ai
 H₀:Hp
 env:Env
 outer:List Env
 stack:List Env
 ex:List Addr
 fn:Str->Bool
 calm:Bool
 pn:List (Addr×Obj)
 xe:Value->ai->Prop
def yR(l:List Env):List Addr:=l.filterMap (·.frame)
abbrev Cx.fs(X:Cx):List Addr:=yR X.outer
def wM(sc:Scope)(x:Str):Prop:=sc.names.lookup x=some .local\/sc.names.lookup x=some .cell\/sc.names.lookup x=some .free
def Loc(sc:Scope)(x:Str):Prop:=sc.names.lookup x=some .local\/sc.names.lookup x=some .cell
def Look(env:Env)(h:Heap)(m:Str->Option Value)(x:Str)(u:Value):Prop:=
 (env.kindOf x=some .local/\m x=some u)\/((env.kindOf x=some .cell\/env.kindOf x=some .free)/\ ∃c,env.cells.lookup x=some c/\h.IsCell c (some u))
structure Cx.Ok(X:Cx):Prop where
 mod:Mod X.K X.mg X.base
 kind:X.env.scope.kind= .function
 glob:X.env.globals=cm
 blt:X.env.builtins=builtinsNs
 above:X.s₀.heap.objs.size<=X.env.locals
 inj: ∀x y c,X.env.cells.lookup x=some c->X.env.cells.lookup y=some c->x=y
 has: ∀x,(X.env.kindOf x=some .cell\/X.env.kindOf x=some .free)-> ∃c,X.env.cells.lookup x=some c
 JP: ∀x c,X.fn x=true->X.env.cells.lookup x=some c->X.s₀.heap.objs.size<=c
 hd:X.calm=true->X.A.handled=none
 frames:X.A.frames=some X.stack
 ux:X.stack=X.outer\/(X.stack=X.env::X.outer/\X.env.frame=some X.env.locals)
 Lj: ∀b∈X.ex,b≠X.env.locals/\ ∀x c,X.env.cells.lookup x=some c->c≠b
 bs: ∀b o,X.base.get? b=some o->X.s₀.heap.get? b=some o/\X.H₀ b=none
 zl:X.base.objs.size<=X.s₀.heap.objs.size
 tM: ∀b o,X.base.get? b=some o->b∉X.ex
 Cg: ∀b∈X.ex,b∉X.fs
 oG:X.s₀.heap.FunFrames X.base X.outer
 Hf: ∀b∈X.fs,X.H₀ b=none
structure Inv(X:Cx)(pins:List (Addr×Obj))(σ:List (Option V))(H:Hp)(s:ai):Prop where
 ok:X.Ok
 os:s.os=X.s₀.os
 bare:ml s.gens
 base:Un X.fs X.ex X.H₀ H X.s₀.heap s.heap
 loc: ∃m,s.heap.Ns X.env.locals m/\ ∀(i:Nat) (x:Str) (v:V),X.N[i]? =some x->σ[i]? =some (some v)->wM X.env.scope x-> ∃u,RelV v u/\Look X.env s.heap m x u
 cell: ∀x c,X.env.cells.lookup x=some c-> ∃v,s.heap.IsCell c v
 free:H X.env.locals=none
 mh: ∀x c,X.env.cells.lookup x=some c->H c=none
 pin: ∀p∈X.pn ++ pins,s.heap.get? p.1=some p.2/\H p.1=none/\p.1≠X.env.locals/\p.1∉X.fs/\ ∀v,p.2.data≠ .cell v
 dW:oq X.prog X.w H s.heap
 len:σ.length=X.N.length
section
variable {X:Cx}{pins:List (Addr×Obj)}{σ:List (Option V)}{H H':Hp}{s:ai}{h':Heap}
theorem Cx.Ok.nofr(ok:X.Ok){b:Addr}{o:Obj}(e:X.base.get? b=some o):b∉X.fs:=fun hb=>by
 have:=(ok.oG.mem hb).1
 rw [e]at this; cases this
theorem Inv.bs(I:Inv X pins σ H s): ∀b o,X.base.get? b=some o->s.heap.get? b=some o/\H b=none:=fun b o e=>
 ⟨I.base.keep b o (I.ok.bs b o e).1 (I.ok.bs b o e).2 (I.ok.nofr e) (I.ok.tM b o e),I.base.free b o (I.ok.bs b o e).1 (I.ok.bs b o e).2 (I.ok.tM b o e)⟩
theorem Inv.bk(I:Inv X pins σ H s): ∀b o,X.base.get? b=some o->s.heap.get? b=some o:=fun b o e=>(I.bs b o e).1
theorem Inv.mod(I:Inv X pins σ H s):Mod X.K X.mg X.base:=I.ok.mod
theorem Inv.kIn(I:Inv X pins σ H s):X.K.In s.heap:=I.ok.mod.Cj.keeps I.bk
theorem Inv.lt(I:Inv X pins σ H s):X.env.locals < s.heap.objs.size:=let⟨_,hn,_⟩:=I.loc; hn.lt
theorem Inv.sz(I:Inv X pins σ H s):X.s₀.heap.objs.size<=s.heap.objs.size:=bj I.ok.above (iN I.lt)
theorem Inv.nofs(I:Inv X pins σ H s){a:Addr}(h:s.heap.objs.size<=a):a∉X.fs:=fun hb=>by
 obtain⟨_,o,ho,_⟩:=I.ok.oG.mem hb
 exact absurd (aZ (au ho) (bj I.sz h)) (df _)
theorem Inv.cne(I:Inv X pins σ H s): ∀x c,X.env.cells.lookup x=some c->c≠X.env.locals:=fun x c e z=>by
 obtain⟨v,o,ho,hd⟩:=I.cell x c e
 obtain⟨m,⟨o',es,ep,ho',hd',_⟩,_⟩:=I.loc
 rw [z,ho']at ho; cases ho; rw [hd']at hd; cases hd
theorem Inv.oG(I:Inv X pins σ H s):s.heap.FunFrames X.base X.outer:=by
 have all: ∀(l:List Env),(∀b∈yR l,b∈X.fs)->X.s₀.heap.FunFrames X.base l->s.heap.FunFrames X.base l:=by
  intro l
  induction l with
  | nil=>intro _ _; trivial
  | cons env r ih=>
   intro hs hl
   obtain⟨hk,⟨L,o,hf,hn,ho,hd⟩,hr⟩:=hl
   have hL:L∈X.fs:=hs L (by unfold yR; rw [jR,hf]; exact bO)
   obtain⟨sl,e⟩:=I.base.slot L o ho (I.ok.Hf L hL) hL fun z=>I.ok.Cg L z hL
   exact⟨hk,⟨L,_,hf,hn,e,hd⟩,ih (fun b hb=>hs b (by unfold yR; rw [jR,hf]; exact bY _ hb)) hr⟩
 exact all X.outer (fun _ hb=>hb) I.ok.oG
theorem Inv.stack(I:Inv X pins σ H s):s.heap.FunFrames X.base X.stack:=by
 rcases I.ok.ux with e | ⟨e,hf⟩
 ·rw [e]; exact I.oG
 ·rw [e]
  obtain⟨m,hn,_⟩:=I.loc
  refine .cons (by rw [I.ok.kind]; decide) hf hn ?_ I.oG
  exact CU (bj I.ok.zl I.ok.above)
theorem Inv.stkSub(I:Inv X pins σ H s): ∀b∈yR X.stack,b∈X.env.locals::X.fs:=fun b hb=>by
 rcases I.ok.ux with e | ⟨e,hf⟩
 ·rw [e]at hb; exact bY _ hb
 ·rw [e]at hb
  unfold yR at hb
  rw [jR,hf]at hb
  exact hb
theorem Inv.stkFree(I:Inv X pins σ H s): ∀b∈yR X.stack,H b=none:=fun b hb=>by
 rcases aO.mp (I.stkSub b hb)with e | hb
 ·rw [e]; exact I.free
 ·obtain⟨_,o,ho,_⟩:=I.ok.oG.mem hb
  exact I.base.free b o ho (I.ok.Hf b hb) fun z=>I.ok.Cg b z hb
theorem Inv.step{g':Array GenState}{t':Nat}{d':Drawn}{ch:List Addr}(I:Inv X pins σ H s)
  (hch: ∀b∈ch,(b∈X.ex\/X.s₀.heap.objs.size<=b)/\b≠X.env.locals/\(∀x c,X.env.cells.lookup x=some c->c≠b)/\ ∀p∈X.pn ++ pins,p.1≠b)
  (keep: ∀b o,b≠X.env.locals->b∉X.fs->b∉ch->s.heap.get? b=some o->H b=none->h'.get? b=some o)
  (slot: ∀b o,b≠X.env.locals->b∈X.fs->b∉ch->s.heap.get? b=some o->H b=none-> ∃sl,h'.get? b=some {o with slots:=sl})(free: ∀b o,b∉ch->s.heap.get? b=some o->H b=none->H' b=none)
  (there: ∀b o,b∉ch->s.heap.get? b=some o-> ∃o',h'.get? b=some o')
  (wm: ∀b xs,H b=some (.tup xs)->H' b=some (.tup xs))(tO: ∀b o u,H b=some (.frz o u)->H' b=some (.frz o u))(vF: ∀b ps,H b=some (.tbl ps)-> ∃more,H' b=some (.tbl (ps ++ more)))
  (ns: ∀m,s.heap.Ns X.env.locals m->h'.Ns X.env.locals m)(dW:oq X.prog X.w H' h')(hg:ml g'):
  Inv X pins σ H' {s with heap:=h',gens:=g',drawn:=d',toks:=t'}:=by
 have neL: ∀b o,X.s₀.heap.get? b=some o->b≠X.env.locals:=fun b o e=>aF (aZ (au e) I.ok.above)
 have neC: ∀b o,X.s₀.heap.get? b=some o->b∉X.ex->b∉ch:=fun b o e hx hb=>by
  rcases(hch b hb).1 with z | z
  ·exact hx z
  ·exact absurd (aZ (au e) z) (df _)
 have cellK: ∀x c,X.env.cells.lookup x=some c-> ∀v,s.heap.IsCell c v->h'.IsCell c v:=fun x c e v ⟨o,ho,hd⟩=>by
  have nch:c∉ch:=fun z=>(hch c z).2.2.1 x c e rfl
  by_cases hc:c∈X.fs
  ·obtain⟨sl,q⟩:=slot c o (I.cne x c e) hc nch ho (I.mh x c e)
   exact⟨_,q,hd⟩
  ·exact⟨o,keep c o (I.cne x c e) hc nch ho (I.mh x c e),hd⟩
 refine⟨I.ok,I.os,hg,⟨fun b o e n hb hx=> ?_,fun b o e n hb hx=> ?_,fun b o e n hx=> ?_,fun b o e hx=> ?_,fun b xs e=>wm b xs (I.base.wm b xs e),fun b o xs e=>tO b o xs (I.base.tO b o xs e),fun b ps e=> ?_⟩, ?_,fun x c e=> ?_, ?_,fun x c e=> ?_,fun p hp=> ?_,dW,I.len⟩
 ·exact keep b o (neL b o e) hb (neC b o e hx) (I.base.keep b o e n hb hx) (I.base.free b o e n hx)
 ·obtain⟨sl,e1⟩:=I.base.slot b o e n hb hx
  obtain⟨sl',e2⟩:=slot b _ (neL b o e) hb (neC b o e hx) e1 (I.base.free b o e n hx)
  exact⟨sl',e2⟩
 ·obtain⟨o',e1⟩:=I.base.there b o e hx
  exact free b o' (neC b o e hx) e1 (I.base.free b o e n hx)
 ·obtain⟨o',e1⟩:=I.base.there b o e hx
  exact there b o' (neC b o e hx) e1
 ·obtain⟨m1,e1⟩:=I.base.vF b ps e
  obtain⟨m2,e2⟩:=vF b _ e1
  exact⟨m1 ++ m2,by rw [e2,Array.append_assoc]⟩
 ·obtain⟨m,hn,hl⟩:=I.loc
  refine⟨m,ns m hn,fun i x v e1 e2 e3=> ?_⟩
  obtain⟨u,r,l⟩:=hl i x v e1 e2 e3
  refine⟨u,r, ?_⟩
  rcases l with l | ⟨k,c,e,z⟩
  ·exact .inl l
  ·exact .inr ⟨k,c,e,cellK x c e _ z⟩
 ·obtain⟨v,z⟩:=I.cell x c e
  exact⟨v,cellK x c e v z⟩
 ·obtain⟨m,⟨o,_,_,ho,_⟩,_⟩:=I.loc
  exact free _ o (fun z=>(hch _ z).2.1 rfl) ho I.free
 ·obtain⟨v,o,ho,hd⟩:=I.cell x c e
  exact free c o (fun z=>(hch c z).2.2.1 x c e rfl) ho (I.mh x c e)
 ·obtain⟨e,n,ne,nf,d⟩:=I.pin p hp
  have nch:p.1∉ch:=fun z=>(hch p.1 z).2.2.2 p hp rfl
  exact⟨keep p.1 p.2 ne nf nch e n,free p.1 p.2 nch e n,ne,nf,d⟩
theorem Inv.un{t':Nat}(I:Inv X pins σ H s)(u:Un X.fs [] H H' s.heap h')(dW:oq X.prog X.w H' h'):Inv X pins σ H' {s with heap:=h',toks:=t'}:=by
 obtain⟨m,⟨o,es,ep,ho,r⟩,_⟩:=id I.loc
 obtain⟨sl,hL⟩:=u.any ho I.free (by simp)
 exact I.step (g':=s.gens) (d':=s.drawn) (ch:= []) (fun _ z=>nomatch z) (fun b o _ hb _ e n=>u.keep b o e n hb (by simp)) (fun b o _ hb _ e n=>u.slot b o e n hb (by simp)) (fun b o _ e n=>u.free b o e n (by simp)) (fun b o _ e=>u.there b o e (by simp)) u.wm u.tO u.vF (fun m' hm=>by
  obtain⟨o',es',ep',ho',r'⟩:=hm
  rw [ho]at ho'; cases ho'
  exact⟨_,es',ep',hL,r'⟩) dW I.bare
theorem Inv.call{g':Array GenState}{t':Nat}{d':Drawn}{ch:List Addr}(I:Inv X pins σ H s)(u:Un (yR X.stack) ch H H' s.heap h')(dW:oq X.prog X.w H' h')(hg:ml g')
  (hch: ∀b∈ch,(b∈X.ex\/X.s₀.heap.objs.size<=b)/\b≠X.env.locals/\(∀x c,X.env.cells.lookup x=some c->c≠b)/\ ∀p∈X.pn ++ pins,p.1≠b):
  Inv X pins σ H' {s with heap:=h',gens:=g',drawn:=d',toks:=t'}:=by
 obtain⟨m,⟨o,es,ep,ho,r⟩,_⟩:=id I.loc
 obtain⟨sl,hL⟩:=u.any ho I.free fun z=>(hch _ z).2.1 rfl
 exact I.step (ch:=ch) hch (fun b o hL hb hc e n=>u.keep b o e n (fun z=>(aO.mp (I.stkSub b z)).elim hL hb) hc) (fun b o _ _ hc e n=>u.any e n hc) (fun b o hc e n=>u.free b o e n hc) (fun b o hc e=>u.there b o e hc) u.wm u.tO u.vF (fun m' hm=>by
  obtain⟨o',es',ep',ho',r'⟩:=hm
  rw [ho]at ho'; cases ho'
  exact⟨_,es',ep',hL,r'⟩) dW hg
theorem Inv.turned{t':Nat}{it:Addr}(I:Inv X pins σ H s)(k: ∀b o,b≠it->s.heap.get? b=some o->h'.get? b=some o)(hn:H it=none)(hL:it≠X.env.locals)
  (h1:it∈X.ex\/X.s₀.heap.objs.size<=it)(h2: ∀x c,X.env.cells.lookup x=some c->c≠it)(h3: ∀p∈X.pn ++ pins,p.1≠it):Inv X pins σ H {s with heap:=h',toks:=t'}:=by
 have nit: ∀b u,H b=some u->b≠it:=fun b u e z=>by rw [z,hn]at e; cases e
 refine I.step (g':=s.gens) (d':=s.drawn) (ch:= [it]) (fun b hb=> ?_) (fun b o _ _ hc e _=>k b o (fun z=>hc (by simp [z])) e) (fun b o _ _ hc e _=>⟨o.slots,k b o (fun z=>hc (by simp [z])) e⟩) (fun _ _ _ _ n=>n)
  (fun b o hc e=>⟨o,k b o (fun z=>hc (by simp [z])) e⟩) (fun _ _ e=>e) (fun _ _ _ e=>e) (fun b ps e=>⟨#[],by rw [e]; simp⟩) (fun m hm=> ?_) (fun b u e=> ?_) I.bare
 ·have e:b=it:=by simpa using hb
  subst e
  exact⟨h1,hL,h2,h3⟩
 ·obtain⟨o,es,ep,ho,r⟩:=hm
  exact⟨o,es,ep,k _ o (ot hL) ho,r⟩
 ·refine(I.dW b u e).stay (fun c v hc q=>k c v ?_ q) (fun _ q=>q) fun _ _ q=>q
  rcases hc with z | z
  ·rw [z]; exact nit b u e
  ·exact nit c _ z
theorem Inv.tok(I:Inv X pins σ H s)(t:Nat):Inv X pins σ H {s with toks:=t}:=I.un (h':=s.heap) (t':=t) Un.refl I.dW
theorem Inv.kept{t':Nat}(I:Inv X pins σ H s)(k: ∀b u,s.heap.get? b=some u->h'.get? b=some u):Inv X pins σ H {s with heap:=h',toks:=t'}:=I.un (Un.kept k) (I.dW.kept k)
theorem Inv.laid{a:Addr}{o:HO}{t':Nat}(I:Inv X pins σ H s)(k: ∀b u,s.heap.get? b=some u->h'.get? b=some u)(hp:s.heap.objs.size<=a)(new:fI X.prog X.w (upd H a o) h' a o):
  Inv X pins σ (upd H a o) {s with heap:=h',toks:=t'}:=I.un (Un.laid k hp (I.dW.fresh hp)) (I.dW.laid k hp new)
theorem Inv.write{x e:Addr}{o:HO}{t':Nat}(I:Inv X pins σ H s)(mu:Lh (H x))(he:e=x\/H e=some (.own x))(k: ∀b u,b≠e->s.heap.get? b=some u->h'.get? b=some u)(heo: ∃u,h'.get? e=some u)
  (new:fI X.prog X.w (upd H x o) h' x o):Inv X pins σ (upd H x o) {s with heap:=h',toks:=t'}:=I.un (Un.write mu he k heo) (I.dW.write mu he k heo new)
theorem Inv.pins_of{pins':List (Addr×Obj)}(I:Inv X pins σ H s)(h: ∀p∈pins',s.heap.get? p.1=some p.2/\H p.1=none/\p.1≠X.env.locals/\p.1∉X.fs/\ ∀v,p.2.data≠ .cell v):Inv X pins' σ H s:=
 ⟨I.ok,I.os,I.bare,I.base,I.loc,I.cell,I.free,I.mh,fun p hp=>(bI.mp hp).elim (fun z=>I.pin p (fh _ z)) (h p),I.dW,I.len⟩
theorem xv{N:List Str}(hN:N.Nodup){i j:Nat}{x:Str}(a:N[i]? =some x)(b:N[j]? =some x):i=j:=by
 obtain⟨h1,e1⟩:=aD.mp a
 obtain⟨h2,e2⟩:=aD.mp b
 exact(gW hN).mp (e1.trans e2.symm)
theorem pj{M:Model}{A:bC}{E:Value->ai->Prop}{i:Nat}{x:Str}{v:V}{u:Value}{Q:Unit->ai->Prop}(I:Inv X pins σ H s)(hN:X.N.Nodup)(hi:X.N[i]? =some x)(hx:Loc X.env.scope x)(r:RelV v u)
  (h: ∀s',Inv X pins (σ.set i (some v)) H s'->(∃a,aW a s.heap s'.heap/\(a=X.env.locals\/X.env.cells.lookup x=some a))->Q () s')(hf:X.fn x=true\/X.env.scope.names.lookup x=some .local:=by first | exact .inl rfl | exact .inr rfl | assumption):wpAny M A (storeName X.env x u) Q E s:=by
 obtain⟨m,hn,hl⟩:=id I.loc
 have hcls:(X.env.scope.kind== .class || (X.env.scope.kind== .module&&X.env.locals !=X.env.globals))=false:=by rw [I.ok.kind]; rfl
 have hiσ:i < σ.length:=by rw [I.len]; exact(aD.mp hi).1
 have cne:=I.cne
 have tracked: ∀{a:Addr} {h':Heap},(∃o,s.heap.get? a=some o/\H a=none)->aW a s.heap h'->oq X.prog X.w H h':=fun{a h'} ha hs b ob e=>by
  obtain⟨_,_,hfree⟩:=ha
  refine(I.dW b ob e).stay (fun c w' hc q=>(hs.2 c ?_).trans q) (fun _ q=>q) fun _ _ q=>q
  rintro rfl
  rcases hc with rfl | hc
  ·rw [hfree]at e; cases e
  ·rw [hfree]at hc; cases hc
 rcases hx with hk | hk
 ·refine wpAny_storeName_local hk hn (fun h' hn' hs=> ?_) hcls
  obtain⟨oL,_,_,hoL,_⟩:=id hn
  refine h _ ⟨I.ok,I.os,I.bare,⟨fun b o e n hb hx=> ?_,fun b o e n hb hx=> ?_,I.base.free,fun b o e hx=> ?_,I.base.wm,I.base.tO,I.base.vF⟩,⟨_,hn',fun j y v' e1 e2 e3=> ?_⟩,fun y c e=> ?_,I.free,I.mh,fun p hp=> ?_,tracked ⟨oL,hoL,I.free⟩ hs,by simpa using I.len⟩ ⟨_,hs, .inl rfl⟩
  ·exact(hs.2 b (aF (aZ (au e) I.ok.above))).trans (I.base.keep b o e n hb hx)
  ·obtain⟨sl,e1⟩:=I.base.slot b o e n hb hx
   exact⟨sl,(hs.2 b (aF (aZ (au e) I.ok.above))).trans e1⟩
  ·obtain⟨o',e1⟩:=I.base.there b o e hx
   exact⟨o',(hs.2 b (aF (aZ (au e) I.ok.above))).trans e1⟩
  ·by_cases hj:j=i
   ·subst hj
    rw [hi]at e1; cases e1
    rw [Ah hiσ]at e2
    cases e2
    exact⟨u,r, .inl ⟨hk,by simp⟩⟩
   ·rw [nX (ot hj)]at e2
    obtain⟨u',r',q⟩:=hl j y v' e1 e2 e3
    refine⟨u',r', ?_⟩
    rcases q with⟨k,e⟩ | ⟨k,c,e,z⟩
    ·refine .inl ⟨k, ?_⟩
     have:y≠x:=fun e=>hj (xv hN e1 (e▸hi))
     simp [this,e]
    ·exact .inr ⟨k,c,e,z.sameBut hs (cne y c e)⟩
  ·obtain⟨w',z⟩:=I.cell y c e
   exact⟨w',z.sameBut hs (cne y c e)⟩
  ·obtain⟨e,n,ne,nf,d⟩:=I.pin p hp
   exact⟨(hs.2 p.1 ne).trans e,n,ne,nf,d⟩
 ·have hfn:X.fn x=true:=by
   rcases hf with z | z
   ·exact z
   ·rw [z]at hk; cases hk
  obtain⟨c,hc⟩:=I.ok.has x (.inl hk)
  obtain⟨w',z⟩:=I.cell x c hc
  refine wpAny_storeName_cell I.ok.kind hk hc z (fun h' hc' hs=> ?_)
  obtain⟨oc,hoc,hocd⟩:=id z
  refine h {s with heap:=h'} ⟨I.ok,I.os,I.bare,⟨fun b o e n hb hx=> ?_,fun b o e n hb hx=> ?_,I.base.free,fun b o e hx=> ?_,I.base.wm,I.base.tO,I.base.vF⟩,⟨m,hn.sameBut hs (ot (cne x c hc)),fun j y v' e1 e2 e3=> ?_⟩,fun y c' e=> ?_,I.free,I.mh,fun p hp=> ?_,tracked ⟨oc,hoc,I.mh x c hc⟩ hs,by simpa using I.len⟩ ⟨c,hs, .inr hc⟩
  ·exact(hs.2 b (aF (aZ (au e) (I.ok.JP x c hfn hc)))).trans (I.base.keep b o e n hb hx)
  ·obtain⟨sl,e1⟩:=I.base.slot b o e n hb hx
   exact⟨sl,(hs.2 b (aF (aZ (au e) (I.ok.JP x c hfn hc)))).trans e1⟩
  ·obtain⟨o',e1⟩:=I.base.there b o e hx
   exact⟨o',(hs.2 b (aF (aZ (au e) (I.ok.JP x c hfn hc)))).trans e1⟩
  ·by_cases hj:j=i
   ·subst hj
    rw [hi]at e1; cases e1
    rw [Ah hiσ]at e2
    cases e2
    exact⟨u,r, .inr ⟨.inl hk,c,hc,hc'⟩⟩
   ·rw [nX (ot hj)]at e2
    obtain⟨u',r',q⟩:=hl j y v' e1 e2 e3
    refine⟨u',r', ?_⟩
    rcases q with q | ⟨k,c',e,z'⟩
    ·exact .inl q
    ·refine .inr ⟨k,c',e,z'.sameBut hs ?_⟩
     rintro rfl
     exact hj (xv hN e1 (I.ok.inj _ _ _ e hc▸hi))
  ·by_cases hcc:c'=c
   ·subst hcc; exact⟨_,hc'⟩
   ·obtain⟨w2,z2⟩:=I.cell y c' e
    exact⟨w2,z2.sameBut hs hcc⟩
  ·obtain⟨e,n,ne,nf,d⟩:=I.pin p hp
   refine⟨(hs.2 p.1 ?_).trans e,n,ne,nf,d⟩
   intro q
   rw [q,hoc]at e
   have q':oc=p.2:=aA e
   exact d w' (by rw [<-q']; exact hocd)
theorem xT{M:Model}{A:bC}{E:Value->ai->Prop}{i:Nat}{x:Str}{v:V}{u:Value}{Q:Unit->ai->Prop}(I:Inv X pins σ H s)(hN:X.N.Nodup)(hi:X.N[i]? =some x)(hx:Loc X.env.scope x)(r:RelV v u)
  (h: ∀s',Inv X pins (σ.set i (some v)) H s'->Q () s')(hf:X.fn x=true\/X.env.scope.names.lookup x=some .local:=by first | exact .inl rfl | exact .inr rfl | assumption):wpAny M A (storeName X.env x u) Q E s:=
 pj I hN hi hx r (fun s' I' _=>h s' I') hf
theorem Inv.call'{s':ai}{ch:List Addr}(I:Inv X pins σ H s)(ho:s'.os=s.os)(u:Un (yR X.stack) ch H H' s.heap s'.heap)(dW:oq X.prog X.w H' s'.heap)(hg:ml s'.gens)
  (hch: ∀b∈ch,(b∈X.ex\/X.s₀.heap.objs.size<=b)/\b≠X.env.locals/\(∀x c,X.env.cells.lookup x=some c->c≠b)/\ ∀p∈X.pn ++ pins,p.1≠b):Inv X pins σ H' s':=by
 obtain⟨h',g',d',t',o'⟩:=s'
 have e:o'=s.os:=ho
 subst e
 exact I.call (g':=g') (t':=t') (d':=d') u dW hg hch
end
abbrev XK:=Value->Option Addr->Hp->Prop
abbrev St:=List (Option V)
abbrev VK:=V->Hp->Prop
abbrev TE:=St->Hp->VK->Prop
abbrev TT:=St->Hp->(Bool->Hp->Prop)->Prop
abbrev TA:=St->Hp->(List V->Hp->Prop)->Prop
structure Ends where
 nx:St->Hp->Prop
 rt:VK
 bk:St->Hp->Prop:=fun _ _=>False
 ct:St->Hp->Prop:=fun _ _=>False
abbrev TS:=Ends->St->Hp->Prop
def EP(X:Cx)(pins:List (Addr×Obj))(σ:St)(Q:VK)(u:Value)(s':ai):Prop:= ∃v H',Inv X pins σ H' s'/\RelV v u/\Q v H'
def TP(X:Cx)(pins:List (Addr×Obj))(σ:St)(Q:Bool->Hp->Prop)(b:Bool)(s':ai):Prop:= ∃H',Inv X pins σ H' s'/\Q b H'
def AP(X:Cx)(pins:List (Addr×Obj))(σ:St)(Q:List V->Hp->Prop)(us:List Value)(s':ai):Prop:= ∃vs H',Inv X pins σ H' s'/\Vals vs us/\Q vs H'
def SP(X:Cx)(pins:List (Addr×Obj))(D:Ends)(f:Flow)(s':ai):Prop:=
 match f with
 | .next=> ∃σ' H',Inv X pins σ' H' s'/\D.nx σ' H'
 | .brk=> ∃σ' H',Inv X pins σ' H' s'/\D.bk σ' H'
 | .cont=> ∃σ' H',Inv X pins σ' H' s'/\D.ct σ' H'
 | .ret u=> ∃v σ' H',Inv X pins σ' H' s'/\RelV v u/\D.rt v H'
def PE(X:Cx)(e:Expr)(t:TE):Prop:=
 ∀(pins:List (Addr×Obj)) (s:ai) (σ:St) (H:Hp) (Q:VK),Inv X pins σ H s->t σ H Q->wpAny (model X.prog X.w) X.A (eval e X.env) (EP X pins σ Q) X.xe s
def PT(X:Cx)(e:Expr)(t:TT):Prop:=
 ∀(pins:List (Addr×Obj)) (s:ai) (σ:St) (H:Hp) (Q:Bool->Hp->Prop),Inv X pins σ H s->t σ H Q->wpAny (model X.prog X.w) X.A (isTrue e X.env (eval e X.env)) (TP X pins σ Q) X.xe s
def PW(X:Cx)(e:Expr)(t:TT):Prop:=
 ∀(whole:Sem Value) (pins:List (Addr×Obj)) (s:ai) (σ:St) (H:Hp) (Q:Bool->Hp->Prop),Inv X pins σ H s->t σ H Q->wpAny (model X.prog X.w) X.A (isTrue e X.env whole) (TP X pins σ Q) X.xe s
theorem PW.pt{X:Cx}{e:Expr}{t:TT}(h:PW X e t):PT X e t:=h _
def PA(X:Cx)(es:List Expr)(t:TA):Prop:=
 ∀(pos:Pos) (pins:List (Addr×Obj)) (s:ai) (σ:St) (H:Hp) (Q:List V->Hp->Prop),Inv X pins σ H s->t σ H Q->wpAny (model X.prog X.w) X.A (spliced (e_ pos (ax es X.env))) (AP X pins σ Q) X.xe s
def PS(X:Cx)(st:Stmt)(t:TS):Prop:=
 ∀(pins:List (Addr×Obj)) (s:ai) (σ:St) (H:Hp) (D:Ends),Inv X pins σ H s->t D σ H->wpAny (model X.prog X.w) X.A (exec st X.env) (SP X pins D) X.xe s
def zv(X:Cx)(st:List Stmt)(t:TS):Prop:=
 ∀(pins:List (Addr×Obj)) (s:ai) (σ:St) (H:Hp) (D:Ends),Inv X pins σ H s->t D σ H->wpAny (model X.prog X.w) X.A (execs st X.env) (SP X pins D) X.xe s
theorem eQ{α:Type}{t:Sem α}{Q Q':α->ai->Prop}{M:Model}{A:bC}{E:Value->ai->Prop}{s:ai}(h:wpAny M A t Q E s)(hQ: ∀a s,Q a s->Q' a s):wpAny M A t Q' E s:=cF h hQ fun _ _ x=>x
end L2
namespace L2
open PySem PySem.Spec PyProof.Rows
section
variable {X:Cx}
def Mg(i:Nat):TE:=fun σ H Q=> ∃v,σ[i]? =some (some v)/\Q v H
def tC(v:V):TE:=fun _ H Q=>Q v H
theorem jF{i:Nat}{x:Str}{pos:Pos}(hN:X.N[i]? =some x)(hv:wM X.env.scope x)(hd:(x==("__debug__":Str))=false:=by decide)(hcd:(x==("__classdict__":Str))=false:=by decide):PE X (.Name x pos) (Mg i):=by
 intro pins s σ H Q I h
 obtain⟨v,e,h⟩:=h
 obtain⟨m,hn,hl⟩:=I.loc
 obtain⟨u,r,l⟩:=hl i x v hN e hv
 have fin:EP X pins σ Q u s:=⟨v,H,I,r,h⟩
 rcases l with⟨hk,hm⟩ | ⟨hk,c,hc,hcell⟩
 ·exact wpAny_Name (wpAny_loadName_local I.ok.kind hk hn hm fin) hd
 ·rcases hk with hk | hk
  ·exact wpAny_Name (wpAny_loadName_cell I.ok.kind hk hc hcell fin) hd
  ·exact wpAny_Name (wpAny_loadName_free I.ok.kind hk hc hcell fin hcd) hd
theorem JQ{i j pos}:PE X (.Constant (.int i) j pos) (tC (.int i)):=fun _ _ _ H _ I h=>wpAny_Constant_int ⟨.int i,H,I.tok _,⟨_,rfl⟩,h⟩
theorem Kc{b j pos}:PE X (.Constant (.bool b) j pos) (tC (.bl b)):=fun _ _ _ H _ I h=>Constant_bool ⟨.bl b,H,I,rfl,h⟩
theorem JI{j pos}:PE X (.Constant .none j pos) (tC .non):=fun _ _ _ H _ I h=>Constant_none ⟨.non,H,I,rfl,h⟩
theorem Jg{x j pos}:PE X (.Constant (.str x) j pos) (tC (.str x)):=fun _ _ _ H _ I h=>Calls.Constant_str ⟨.str x,H,I.tok _,⟨_,rfl⟩,h⟩
def Gl(X:Cx)(x:Str):Prop:=X.env.kindOf x=some .globalImplicit
theorem qE{E:Value->ai->Prop}{pins:List (Addr×Obj)}{s:ai}{σ:St}{H:Hp}{x:Str}{u:Value}{pos:Pos}{Q:Value->ai->Prop}(I:Inv X pins σ H s)(hg:Gl X x)(hm:X.mg x=some u)(h:Q u s)
  (hd:(x==("__debug__":Str))=false:=by decide):wpAny (model X.prog X.w) X.A (eval (.Name x pos) X.env) Q E s:=
 Calls.Name_function_global I.ok.kind hg (Calls.loadGlobal_global (by rw [I.ok.glob]; exact I.mod.glob.keeps I.bk) hm h) hd
theorem nF{E:Value->ai->Prop}{pins:List (Addr×Obj)}{s:ai}{σ:St}{H:Hp}{x:Str}{u:Value}{pos:Pos}{Q:Value->ai->Prop}(I:Inv X pins σ H s)(hg:Gl X x)(hm:X.mg x=none)(hv:di x=some u)(h:Q u s)
  (hn:x≠"__name__":=by decide)(hd:(x==("__debug__":Str))=false:=by decide):wpAny (model X.prog X.w) X.A (eval (.Name x pos) X.env) Q E s:=by
 obtain⟨mb,h1,h2⟩:=I.mod.blt
 exact Calls.Name_function_global I.ok.kind hg (Calls.loadGlobal_builtin (by rw [I.ok.glob]; exact I.mod.glob.keeps I.bk) hm (by rw [I.ok.blt]; exact h1.keeps I.bk) ((h2 x hn).trans hv) h) hd
theorem Gj{x:Str}{v:V}{u:Value}{pos:Pos}(hg:Gl X x)(hm:X.mg x=some u)(r:RelV v u)(hd:(x==("__debug__":Str))=false:=by decide):PE X (.Name x pos) (tC v):=
 fun _ _ _ H _ I h=>qE I hg hm ⟨v,H,I,r,h⟩ hd
theorem vL{x:Str}{v:V}{u:Value}{pos:Pos}(hg:Gl X x)(hm:X.mg x=none)(hv:di x=some u)(r:RelV v u)(hn:x≠"__name__":=by decide)(hd:(x==("__debug__":Str))=false:=by decide):PE X (.Name x pos) (tC v):=
 fun _ _ _ H _ I h=>nF I hg hm hv ⟨v,H,I,r,h⟩ hn hd
variable {a b:Expr}{ta tb:TE}{pos:Pos}
def tB(t:TE):TT:=fun σ H Q=>t σ H fun x H1=> ∃c,x= .bl c/\Q c H1
theorem Jv{e:Expr}{t:TE}(h:PE X e t)(he: ∀whole,isTrue e X.env whole=(do let v<-whole; standAt e.pos; jW [v] (truthy v)):=by intro _; rfl):PT X e (tB t):=by
 intro pins s σ H Q I hw
 refine isTrue_plain (eQ (h pins s σ H _ I hw) fun v s1 ⟨x,H1,I1,r1,q1⟩=> ?_) (he _)
 obtain⟨d,rfl,q⟩:=q1
 cases r1
 exact fi ⟨H1,I1,q⟩
variable {tA tB':TT}{rest:List Expr}
def Mi(t u:TT):TT:=fun σ H Q=>t σ H fun c H1=>if c=true then u σ H1 Q else Q false H1
def Nx(t u:TT):TT:=fun σ H Q=>t σ H fun c H1=>if c=true then Q true H1 else u σ H1 Q
def LI(t:TT):TT:=fun σ H Q=>t σ H fun c H1=>Q (!c) H1
theorem pw_and1(ha:PT X a tA):PW X (.BoolOp .And [a] pos) tA:=by
 intro wh pins s σ H Q I h
 refine isTrue_and (eQ (ha pins s σ H Q I h) fun c s1 e=> ?_)
 cases c with
 | true=>exact isTrue_and_nil e
 | false=>exact e
theorem pw_or1(ha:PT X a tA):PW X (.BoolOp .Or [a] pos) tA:=by
 intro wh pins s σ H Q I h
 refine isTrue_or (eQ (ha pins s σ H Q I h) fun c s1 e=> ?_)
 cases c with
 | false=>exact isTrue_or_nil e
 | true=>exact e
theorem pw_and(ha:PT X a tA)(hb:PW X (.BoolOp .And (b::rest) pos) tB'):PW X (.BoolOp .And (a::b::rest) pos) (Mi tA tB'):=by
 intro wh pins s σ H Q I h
 refine isTrue_and (eQ (ha pins s σ H _ I h) fun c s1 ⟨H1,I1,q1⟩=> ?_)
 cases c with
 | true=>exact hb wh pins s1 σ H1 Q I1 q1
 | false=>exact⟨H1,I1,q1⟩
theorem pw_or(ha:PT X a tA)(hb:PW X (.BoolOp .Or (b::rest) pos) tB'):PW X (.BoolOp .Or (a::b::rest) pos) (Nx tA tB'):=by
 intro wh pins s σ H Q I h
 refine isTrue_or (eQ (ha pins s σ H _ I h) fun c s1 ⟨H1,I1,q1⟩=> ?_)
 cases c with
 | true=>exact⟨H1,I1,q1⟩
 | false=>exact hb wh pins s1 σ H1 Q I1 q1
theorem Jd(ha:PT X a tA):PT X (.UnaryOp .Not a pos) (LI tA):=by
 intro pins s σ H Q I h
 exact isTrue_not (ha pins s σ H (fun c H1=>Q (!c) H1) I h)
def K5(ta tb:TE):TE:=fun σ H Q=>ta σ H fun x H1=> ∃c,x= .bl c/\if c=true then tb σ H1 Q else Q (.bl false) H1
def Kl(ta:TE):TE:=fun σ H Q=>ta σ H fun x H1=> ∃c,x= .bl c/\Q (.bl (!c)) H1
theorem JS{op}{t:TE}(h:PE X a t):PE X (.BoolOp op [a] pos) t:=fun pins s σ H Q I hw=>BoolOp_one (h pins s σ H Q I hw)
theorem Js(ha:PE X a ta)(hb:PE X (.BoolOp .And (b::rest) pos) tb):PE X (.BoolOp .And (a::b::rest) pos) (K5 ta tb):=by
 intro pins s σ H Q I h
 refine BoolOp_and (eQ (ha pins s σ H _ I h) fun v s1 ⟨x,H1,I1,r1,q1⟩=> ?_)
 obtain⟨c,rfl,q1⟩:=q1
 cases r1
 refine fi ?_
 cases c with
 | true=>exact hb pins s1 σ H1 Q I1 q1
 | false=>exact⟨.bl false,H1,I1,rfl,q1⟩
theorem JY(ha:PE X a ta):PE X (.UnaryOp .Not a pos) (Kl ta):=by
 intro pins s σ H Q I h
 refine UnaryOp_ (eQ (ha pins s σ H _ I h) fun v s1 ⟨x,H1,I1,r1,q1⟩=> ?_)
 obtain⟨c,rfl,q1⟩:=q1
 cases r1
 exact not_of (fi ⟨.bl (!c),H1,I1,rfl,q1⟩)
end
end L2
namespace L2
open PySem PySem.Spec PyProof.Rows
def lq(K:aM)(H:Hp)(a:Addr)(xs:List V):Prop:=
 Rd H a (.lst xs)\/
  ∃(o:Obj) (its:Array Value) (n:Nat),K.lookup a=some o/\o.cls= .type "list"/\o.dict=none/\o.data= .seq its n/\its.size<=sizeLine/\Vals xs its.toList
def i5(K:aM)(H:Hp)(a:Addr)(xs:List V):Prop:=
 Rd H a (.tup xs)\/
  ∃(o:Obj) (its:Array Value) (n:Nat),K.lookup a=some o/\o.cls= .type "tuple"/\o.data= .seq its n/\its.size<=sizeLine/\Vals xs its.toList
def L9:Value->Option V
 | .none=>some .non
 | .bool b=>some (.bl b)
 | .int i _=>some (.int i)
 | .str x _=>some (.str x)
 | .bytes b _=>some (.byt b)
 | .float b _=>some (.flt b)
 | .ref a=>some (.ref a)
 | .type n=>some (.ty n)
 | _=>none
theorem RelV.abs{x:V}{u:Value}(r:RelV x u):L9 u=some x:=by
 cases x with
 | non=>cases r; rfl
 | bl _=>cases r; rfl
 | int _=>obtain⟨t,rfl⟩:=r; rfl
 | str _=>obtain⟨t,rfl⟩:=r; rfl
 | byt _=>obtain⟨t,rfl⟩:=r; rfl
 | flt _=>obtain⟨t,rfl⟩:=r; rfl
 | ref _=>cases r; rfl
 | ty _=>cases r; rfl
theorem RelV.inj{x y:V}{u:Value}(r:RelV x u)(q:RelV y u):x=y:=aA (r.abs.symm.trans q.abs)
theorem Vals.inj: ∀{xs ys:List V} {us:List Value},Vals xs us->Vals ys us->xs=ys
 | _,_,_, .nil, .nil=>rfl
 | _,_,_, .cons r t, .cons r' t'=>by rw [r.inj r',Vals.inj t t']
section
variable {X:Cx}{pins:List (Addr×Obj)}{σ:St}{H:Hp}{s:ai}{a:Addr}{xs ys:List V}
theorem lq.of{K:aM}(h:H a=some (.lst xs)):lq K H a xs:= .inl (.inl h)
theorem i5.of{K:aM}(h:H a=some (.tup xs)):i5 K H a xs:= .inl (.inl h)
theorem Inv.list(I:Inv X pins σ H s)(h:lq X.K H a xs): ∃its:List Value,Vals xs its/\PlainL s.heap a its.toArray/\xs.length<=sizeLine:=by
 rcases h with h | ⟨o,its,n,hk,hc,hd,hs,hz,r⟩
 ·obtain⟨z,its,n,r,e⟩:=h.ok I.dW
  exact⟨its,r,⟨_,n,e,rfl,rfl,rfl⟩,z⟩
 ·refine⟨its.toList,r,⟨o,n,I.kIn a o hk,hc,hd,by simpa using hs⟩, ?_⟩
  have e:=r.length
  simp only [ak]at e
  omega
theorem Inv.tuple(I:Inv X pins σ H s)(h:i5 X.K H a xs): ∃its:List Value,Vals xs its/\IsTup s.heap a its.toArray/\xs.length<=sizeLine:=by
 rcases h with h | ⟨o,its,n,hk,hc,hs,hz,r⟩
 ·obtain⟨z,its,r,p⟩:=h.ok I.dW
  exact⟨its,r,p,z⟩
 ·refine⟨its.toList,r,⟨o,I.kIn a o hk,hc,n,by simpa using hs⟩, ?_⟩
  have e:=r.length
  simp only [ak]at e
  omega
theorem Inv.list_inj(I:Inv X pins σ H s)(h:lq X.K H a xs)(h':lq X.K H a ys):xs=ys:=by
 obtain⟨its,r,⟨o,n,e,_,_,d⟩,_⟩:=I.list h
 obtain⟨its',r',⟨o',n',e',_,_,d'⟩,_⟩:=I.list h'
 rw [e]at e'; cases e'
 rw [d]at d'
 injection d' with d1 _
 have:its=its':=by simpa using congrArg Array.toList d1
 subst this
 exact r.inj r'
theorem Inv.tuple_inj(I:Inv X pins σ H s)(h:i5 X.K H a xs)(h':i5 X.K H a ys):xs=ys:=by
 obtain⟨its,r,⟨o,e,_,n,d⟩,_⟩:=I.tuple h
 obtain⟨its',r',⟨o',e',_,n',d'⟩,_⟩:=I.tuple h'
 rw [e]at e'; cases e'
 rw [d]at d'
 injection d' with d1 _
 have:its=its':=by simpa using congrArg Array.toList d1
 subst this
 exact r.inj r'
end
abbrev Cx.wish(X:Cx)(E:Value->ai->Prop):Cx:={X with xe:=E}
abbrev Cx.nox(X:Cx):Cx:=X.wish fun _ _=>False
theorem Cx.Ok.wish{X:Cx}(ok:X.Ok)(E:Value->ai->Prop):(X.wish E).Ok:=
 ⟨ok.mod,ok.kind,ok.glob,ok.blt,ok.above,ok.inj,ok.has,ok.JP,ok.hd,ok.frames,ok.ux,ok.Lj,ok.bs,ok.zl,ok.tM,ok.Cg,ok.oG,ok.Hf⟩
theorem Cx.Ok.unwish{X:Cx}{E:Value->ai->Prop}(ok:(X.wish E).Ok):X.Ok:=
 ⟨ok.mod,ok.kind,ok.glob,ok.blt,ok.above,ok.inj,ok.has,ok.JP,ok.hd,ok.frames,ok.ux,ok.Lj,ok.bs,ok.zl,ok.tM,ok.Cg,ok.oG,ok.Hf⟩
section
variable {X:Cx}{pins:List (Addr×Obj)}{σ:St}{H:Hp}{s:ai}{E:Value->ai->Prop}
theorem Inv.wish(I:Inv X pins σ H s)(E:Value->ai->Prop):Inv (X.wish E) pins σ H s:=⟨I.ok.wish E,I.os,I.bare,I.base,I.loc,I.cell,I.free,I.mh,I.pin,I.dW,I.len⟩
theorem Inv.unwish(I:Inv (X.wish E) pins σ H s):Inv X pins σ H s:=⟨I.ok.unwish,I.os,I.bare,I.base,I.loc,I.cell,I.free,I.mh,I.pin,I.dW,I.len⟩
theorem SP.unwish{D:Ends}{f:Flow}{s':ai}(h:SP (X.wish E) pins D f s'):SP X pins D f s':=by
 cases f with
 | next=>obtain⟨σ',H',I,q⟩:=h; exact⟨σ',H',I.unwish,q⟩
 | brk=>obtain⟨σ',H',I,q⟩:=h; exact⟨σ',H',I.unwish,q⟩
 | cont=>obtain⟨σ',H',I,q⟩:=h; exact⟨σ',H',I.unwish,q⟩
 | ret u=>obtain⟨v,σ',H',I,r,q⟩:=h; exact⟨v,σ',H',I.unwish,r,q⟩
theorem zv.nox{st:List Stmt}{t:TS}(h:zv X.nox st t):zv X st t:=fun pins s σ H D I hw=>
 cF (h pins s σ H D (I.wish _) hw) (fun _ _ q=>q.unwish) fun _ _ z=>fD z
end
section
variable {X:Cx}{st:Stmt}{rest:List Stmt}{t u:TS}{e:Expr}{te:TE}{pos:Pos}
def Kr:TS:=fun D σ H=>D.nx σ H
def LS(t u:TS):TS:=fun D σ H=>t {D with nx:=u D} σ H
theorem qH:zv X [] Kr:=fun _ _ σ H _ I h=>uc ⟨σ,H,I,h⟩
theorem dS(h1:PS X st t)(h2:zv X rest u):zv X (st::rest) (LS t u):=by
 intro pins s σ H D I h
 refine wpAny_execs_cons (eQ (h1 pins s σ H {D with nx:=u D} I h) fun f s1 q=> ?_)
 cases f with
 | next=>
  obtain⟨σ',H',I',q⟩:=q
  exact h2 pins s1 σ' H' D I' q
 | ret v=>exact q
 | brk=>exact q
 | cont=>exact q
theorem qM(h1:PS X st t):zv X [st] t:=by
 intro pins s σ H D I h
 refine wpAny_execs_cons (eQ (h1 pins s σ H D I h) fun f s1 q=> ?_)
 cases f with
 | next=>exact uc q
 | ret v=>exact q
 | brk=>exact q
 | cont=>exact q
theorem Inv.quiet{pins:List (Addr×Obj)}{σ:St}{H:Hp}{s:ai}(I:Inv X pins σ H s):interactive X.env=false:=by simp [interactive,I.ok.kind]
def Kk(te:TE):TS:=fun D σ H=>te σ H fun _ H1=>D.nx σ H1
theorem mF(he:PE X e te)(hs:cO e none pos.line X.env=pure false:=by rfl):PS X (.Expr e pos) (Kk te):=by
 intro pins s σ H D I h
 exact wpAny_Expr_any (eQ (he pins s σ H _ I h) fun v s1 ⟨x,H1,I1,r1,q1⟩=>⟨σ,H1,I1,q1⟩) I.quiet hs
def Mm(te:TE):TS:=fun D σ H=>te σ H D.rt
theorem Jr(he:PE X e te):PS X (.Return (some e) pos) (Mm te):=by
 intro pins s σ H D I h
 exact wpAny_Return_some (eQ (he pins s σ H _ I h) fun v s1 ⟨x,H1,I1,r1,q1⟩=>⟨x,σ,H1,I1,r1,q1⟩)
def Lw(c:TT)(t u:TS):TS:=fun D σ H=>c σ H fun b H1=>if b=true then t D σ H1 else u D σ H1
theorem Ay{c:Expr}{a b:List Stmt}{tc:TT}(hc:PT X c tc)(ha:zv X a t)(hb:zv X b u):PS X (.If c a b pos) (Lw tc t u):=by
 intro pins s σ H D I h
 refine wpAny_If (eQ (hc pins s σ H _ I h) fun d s1 ⟨H1,I1,q1⟩=> ?_)
 cases d with
 | true=>exact ha pins s1 σ H1 D I1 q1
 | false=>exact hb pins s1 σ H1 D I1 q1
end
abbrev TG:=V->St->Hp->(St->Hp->Prop)->Prop
abbrev JH:=List V->St->Hp->(St->Hp->Prop)->Prop
def PG(X:Cx)(target:Expr)(t:TG):Prop:=
 ∀(pins:List (Addr×Obj)) (s:ai) (σ:St) (H:Hp) (v:V) (u:Value) (Q:St->Hp->Prop),Inv X pins σ H s->RelV v u->t v σ H Q->
  wpAny (model X.prog X.w) X.A (ko target X.env u) (fun _ s'=> ∃σ' H',Inv X pins σ' H' s'/\Q σ' H') X.xe s
def La(X:Cx)(ts:List Expr)(t:JH):Prop:=
 ∀(pins:List (Addr×Obj)) (s:ai) (σ:St) (H:Hp) (vs:List V) (us:List Value) (Q:St->Hp->Prop),Inv X pins σ H s->Vals vs us->t vs σ H Q->
  wpAny (model X.prog X.w) X.A (assignInOrder ((mn ts X.env).map (·.2)) us) (fun _ s'=> ∃σ' H',Inv X pins σ' H' s'/\Q σ' H') X.xe s
abbrev IT:=V->V->V->Hp->(Hp->Prop)->Prop
def Ks(X:Cx)(t:IT):Prop:=
 ∀(pins:List (Addr×Obj)) (s:ai) (σ:St) (H:Hp) (o i v:V) (ov iv u:Value) (Q:Hp->Prop),Inv X pins σ H s->RelV o ov->RelV i iv->RelV v u->t o i v H Q->
  wpAny (model X.prog X.w) X.A (setItem ov iv u) (fun _ s'=> ∃H',Inv X pins σ H' s'/\Q H') X.xe s
section
variable {X:Cx}{pos:Pos}
def ID(i:Nat):TG:=fun v σ H Q=>Q (σ.set i (some v)) H
theorem lA{i:Nat}{x:Str}(hN:X.N.Nodup)(hi:X.N[i]? =some x)(hx:Loc X.env.scope x)(hf:X.fn x=true\/X.env.scope.names.lookup x=some .local:=by first | exact .inl rfl | exact .inr rfl | assumption):PG X (.Name x pos) (ID i):=by
 intro pins s σ H v u Q I r h
 exact Gb (xT I hN hi hx r (fun s' I'=>⟨_,H,I',h⟩) hf)
def Lu:JH:=fun vs σ H Q=>vs= []/\Q σ H
def Kf(t:TG)(u:JH):JH:=fun vs σ H Q=> ∃v r,vs=v::r/\t v σ H fun σ' H'=>u r σ' H' Q
theorem AD:La X [] Lu:=by
 intro pins s σ H vs us Q I r h
 obtain⟨e,h⟩:=h
 subst e
 cases r
 exact assignInOrder_nil ⟨σ,H,I,h⟩
theorem oS{e:Expr}{es:List Expr}{t:TG}{u:JH}(h1:PG X e t)(h2:La X es u)
  (hs:(mn (e::es) X.env).map (·.2)=ko e X.env::(mn es X.env).map (·.2):=by rfl):La X (e::es) (Kf t u):=by
 intro pins s σ H vs us Q I r h
 obtain⟨v,vr,e1,h⟩:=h
 subst e1
 cases r with
 | cons r rr=>
  rw [hs]
  refine assignInOrder_cons (eQ (h1 pins s σ H _ _ _ I r h) fun _ s1 ⟨σ1,H1,I1,q1⟩=> ?_)
  exact h2 pins s1 σ1 H1 _ _ Q I1 rr q1
def Ml(K:aM)(n:Nat)(t:JH):TG:=fun v σ H Q=> ∃a xs,v= .ref a/\i5 K H a xs/\xs.length=n/\t xs σ H Q
theorem ET{es:List Expr}{k:Nat}{t:JH}{n:Nat}(hc:X.calm=true)(h:La X es t)
  (hn:(mn es X.env).length=n:=by rfl)(hst:(mn es X.env).findIdx? (·.1)=none:=by rfl):PG X (.Tuple es k pos) (Ml X.K n t):=by
 intro pins s σ H v u Q I r hw
 obtain⟨a,xs,e1,hq,hl,hw⟩:=hw
 subst e1
 cases r
 obtain⟨its,rv,ht,hz⟩:=I.tuple hq
 refine assign_Tuple_tuple (I.ok.hd hc) ht (by simp [hn, <-hl,rv.length]) hst fun h' hx=> ?_
 have I1:Inv X pins σ H {s with heap:=h'}:=I.kept (t':=s.toks) fun b o e=>hx b o (aF (au e)) e
 exact h pins _ σ H xs _ Q I1 (by simpa using rv) hw
def Mn(to ti:TE)(t:IT):TG:=fun v σ H Q=>to σ H fun o H1=>ti σ H1 fun i H2=>t o i v H2 fun H3=>Q σ H3
theorem Jq{o i:Expr}{to ti:TE}{t:IT}(ho:PE X o to)(hi:PE X i ti)(hs:Ks X t)
  (ha: ∀v,ko (.Subscript o i pos) X.env v=(do
   let ov<-jW [v] (eval o X.env)
   let iv<-jW [v,ov] (eval i X.env)
   standAt pos
   jW [v,ov,iv] (setItem ov iv v)
   release [v,ov,iv] []):=by intro _; rfl):PG X (.Subscript o i pos) (Mn to ti t):=by
 intro pins s σ H v u Q I r h
 rw [ha]
 refine aa (bq (eQ (ho pins s σ H _ I h) fun ov s1 ⟨x,H1,I1,r1,q1⟩=> ?_))
 refine aa (bq (eQ (hi pins s1 σ H1 _ I1 q1) fun iv s2 ⟨y,H2,I2,r2,q2⟩=> ?_))
 refine aa (o5 (aa (bq (eQ (hs pins s2 σ H2 x y v ov iv u _ I2 r1 r2 r q2) fun _ s3 ⟨H3,I3,q3⟩=> ?_))))
 exact wpAny_release ⟨σ,H3,I3,q3⟩
def KA(te:TE)(g:TG):TS:=fun D σ H=>te σ H fun x H1=>g x σ H1 D.nx
theorem IY{tg e:Expr}{te:TE}{g:TG}(he:PE X e te)(hg:PG X tg g)(hs:swapsWithSole [tg] e pos.line X.env=pure false:=by rfl)(hw:swappedStores [tg] e X.env=pure none:=by rfl)
  (h1:(mn [tg] X.env).map (·.2)= [ko tg X.env]:=by rfl):PS X (.Assign [tg] e pos) (KA te g):=by
 intro pins s σ H D I h
 refine wpAny_Assign_stores (eQ (he pins s σ H _ I h) fun v s1 ⟨x,H1,I1,r1,q1⟩=> ?_) hs hw
 rw [h1]
 exact eQ (hg pins s1 σ H1 x v _ I1 r1 q1) fun _ s2 q=>q
theorem pL{i:Nat}{x:Str}{e:Expr}{te:TE}{pos':Pos}(hN:X.N.Nodup)(hi:X.N[i]? =some x)(hx:Loc X.env.scope x)(he:PE X e te)(hs:cO e (some (.Name x pos')) pos.line X.env=pure false:=by rfl)(hf:X.fn x=true\/X.env.scope.names.lookup x=some .local:=by first | exact .inl rfl | exact .inr rfl | assumption):
  PS X (.Assign [.Name x pos'] e pos) (KA te (ID i)):=by
 intro pins s σ H D I h
 refine wpAny_Assign_Name (eQ (he pins s σ H _ I h) fun v s1 ⟨y,H1,I1,r1,q1⟩=> ?_) hs
 exact xT I1 hN hi hx r1 (fun s2 I2=>⟨_,H1,I2,q1⟩) hf
end
section
variable {X:Cx}{pos:Pos}
def Jx(c:TT)(tb:TS):TS:=fun D σ H=> ∃W:Nat->St->Hp->Prop,(∃m,W m σ H)/\ ∀m σ H,W m σ H->
 c σ H fun b H1=>if b=true then ∃N:St->Hp->Prop,(∀σ' H',N σ' H'-> ∃m',m' < m/\W m' σ' H')/\tb {D with nx:=N,ct:=N,bk:=D.nx} σ H1 else D.nx σ H1
theorem xu{c:Expr}{body:List Stmt}{tc:TT}{tb:TS}(hp:sS (model X.prog X.w) X.A X.env X.xe)(hc:PT X c tc)(hb:zv X body tb):PS X (.While c body [] pos) (Jx tc tb):=by
 intro pins s σ H D I h
 obtain⟨W,⟨m0,w0⟩,turn⟩:=h
 refine wpAny_While (codeAny_whileLoop (fun n s'=> ∃σ' H',Inv X pins σ' H' s'/\W n σ' H') ?_ m0 ⟨σ,H,I,w0⟩)
 rintro n s1 ⟨σ1,H1,I1,w1⟩
 refine ig hp (eQ (hc pins s1 σ1 H1 _ I1 (turn n σ1 H1 w1)) fun b s2 ⟨H2,I2,q2⟩=> ?_)
 cases b with
 | true=>
  obtain⟨N,hN,q2⟩:=q2
  rw [if_pos rfl]
  refine ig hp (eQ (hb pins s2 σ1 H2 _ I2 q2) fun f s3 q3=> ?_)
  cases f with
  | next=>
   obtain⟨σ3,H3,I3,n3⟩:=q3
   obtain⟨m',hm,w3⟩:=hN σ3 H3 n3
   exact⟨m',hm,σ3,H3,I3,w3⟩
  | cont=>
   obtain⟨σ3,H3,I3,n3⟩:=q3
   obtain⟨m',hm,w3⟩:=hN σ3 H3 n3
   exact⟨m',hm,σ3,H3,I3,w3⟩
  | brk=>exact q3
  | ret v=>exact q3
 | false=>
  rw [if_neg aC]
  exact uc ⟨σ1,H2,I2,q2⟩
end
structure It where
 go:Nat->Hp->Prop
 LL:Nat->Hp->V->Hp->Prop
 stop:Nat->Hp->Prop
def g_(X:Cx)(pins:List (Addr×Obj))(H:Hp)(b:Addr):Prop:=
 H b=none/\b≠X.env.locals/\b∉X.fs/\(b∈X.ex\/X.s₀.heap.objs.size<=b)/\(∀x c,X.env.cells.lookup x=some c->c≠b)/\ ∀p∈X.pn ++ pins,p.1≠b
theorem Inv.fpOk{X:Cx}{pins:List (Addr×Obj)}{σ:St}{H H':Hp}{s:ai}{b:Addr}(I:Inv X pins σ H s)(hb:s.heap.objs.size<=b)(hn:H' b=none):g_ X pins H' b:=by
 refine⟨hn,bH (aZ I.lt hb),I.nofs hb, .inr (bj I.sz hb),fun x c e z=> ?_,fun p hp z=> ?_⟩
 ·obtain⟨v,q⟩:=I.cell x c e
  exact absurd (aZ q.lt (by rw [z]; exact hb)) (df _)
 ·exact absurd (aZ (au (I.pin p hp).1) (by rw [z]; exact hb)) (df _)
structure Turn(P:av)(w:World)(K:aM)(tg:Expr)(J:It)(fp:List Addr)(it:Addr)(tn:Nat->Heap->Prop):Prop where
 mem:it∈fp
 obj: ∀i h,tn i h-> ∀b∈fp, ∃o,h.get? b=some o/\ ∀v,o.data≠ .cell v
 keep: ∀i h h',tn i h->(∀b∈fp, ∀o,h.get? b=some o->h'.get? b=some o)->tn i h'
 item: ∀(X:Cx),X.prog=P->X.w=w->X.K=K->X.calm=true-> ∀(i:Nat) (pins:List (Addr×Obj)) (s:ai) (σ:St) (H:Hp) (E:Value->ai->Prop),Inv X pins σ H s->(∀b∈fp,g_ X pins H b)->tn i s.heap->J.go i H->
  wpAny (model P w) X.A (gF (.ref it)) (fun r s1=> ∃u,r=some u/\
   wpAny (model P w) X.A (jL tg (.ref it) u) (fun _ s2=> ∃x H',Inv X pins σ H' s2/\RelV x u/\J.LL i H x H'/\tn (i+1) s2.heap/\ ∀b∈fp,H' b=none) E s1) E s
 done: ∀(X:Cx),X.prog=P->X.w=w->X.K=K->X.calm=true-> ∀(i:Nat) (pins:List (Addr×Obj)) (s:ai) (σ:St) (H:Hp) (E:Value->ai->Prop),Inv X pins σ H s->(∀b∈fp,g_ X pins H b)->tn i s.heap->J.stop i H->
  wpAny (model P w) X.A (gF (.ref it)) (fun r s1=>r=none/\Inv X pins σ H s1) E s
 self: ∀(A:bC) (i:Nat) (s:ai) (Q:Value->ai->Prop) (E:Value->ai->Prop),tn i s.heap->Q (.ref it) s->wpAny (model P w) A (sT (.ref it)) Q E s
abbrev TI:=St->Hp->(It->Hp->Prop)->Prop
def L6(X:Cx)(pins:List (Addr×Obj))(σ:St)(tg:Expr)(R:It->Hp->Prop)(itv:Value)(s2:ai):Prop:=
 ∃(it:Addr) (fp:List Addr) (tn:Nat->Heap->Prop) (J:It) (H':Hp),itv= .ref it/\Inv X pins σ H' s2/\Turn X.prog X.w X.K tg J fp it tn/\tn 0 s2.heap/\(∀b∈fp,g_ X pins H' b)/\R J H'
def PI(X:Cx)(tg iter:Expr)(wi:TI):Prop:=
 ∀(pins:List (Addr×Obj)) (s:ai) (σ:St) (H:Hp) (R:It->Hp->Prop),Inv X pins σ H s->wi σ H R->
  wpAny (model X.prog X.w) X.A (eval iter X.env) (fun v s1=>wpAny (model X.prog X.w) X.A (sT v) (L6 X pins σ tg R) X.xe s1) X.xe s
theorem Eu{M:Model}{A:bC}{E:Value->ai->Prop}{s:ai}{tg:Expr}{it:Addr}{u:Value}{o:Obj}{n:String}{vs:Array Value}{Q:Unit->ai->Prop}(ho:s.heap.get? it=some o)(hc:o.cls= .type n)(hd:o.data= .fields vs)
    (hn: ["enumerate","zip","dict_itemiterator","dict_reverseitemiterator","odict_iterator","itertools.zip_longest","itertools.pairwise"].contains n=false)(hQ:Q () s):wpAny M A (jL tg (.ref it) u) Q E s:=by
  unfold jL
  cases tg <;> first
    | exact ag hQ
    | (cases u <;> first
        | exact ag hQ
        | (refine aa (wz ho ?_)
           rw [hc,hd]
           show wpAny M A (if(["enumerate","zip","dict_itemiterator","dict_reverseitemiterator","odict_iterator","itertools.zip_longest","itertools.pairwise"].contains n&&vs[0]? ==some (dI _))=true then _ else _) Q E s
           rw [if_neg (by intro h; rw [hn,fR]at h; cases h)]
           exact ag hQ))
def Ls(K:aM)(a:Addr):It:=
 ⟨fun i H=> ∃xs x,lq K H a xs/\xs[i]? =some x,fun i H x H'=>H'=H/\ ∀xs,lq K H a xs->xs[i]? =some x,fun i H=> ∃xs,lq K H a xs/\xs.length<=i⟩
def LG(K:aM)(a:Addr):It:=
 ⟨fun i H=> ∃xs x,i5 K H a xs/\xs[i]? =some x,fun i H x H'=>H'=H/\ ∀xs,i5 K H a xs->xs[i]? =some x,fun i H=> ∃xs,i5 K H a xs/\xs.length<=i⟩
def KG(lo:Int)(n:Nat):It:=⟨fun i _=>i < n,fun i H x H'=>H'=H/\x= .int (lo+i),fun i _=>n<=i⟩
theorem CD{P:av}{w:World}{K:aM}{tg:Expr}(a it:Addr):Turn P w K tg (Ls K a) [it] it (fun i h=>h.IsListIter it a i) where
 mem:=by simp
 obj:=fun i h st b hb=>by
  have e:b=it:=by simpa using hb
  subst e
  obtain⟨o,e,c,d⟩:=st
  exact⟨o,e,fun v z=>by rw [d]at z; cases z⟩
 keep:=fun i h h' st k=>st.at fun o e=>k it (by simp) o e
 item:=by
  intro X hP hw hK hc i pins s σ H E I hf st hg
  subst hP hw hK
  obtain⟨xs,x,hq,hx⟩:=hg
  obtain⟨its,rv,p,hz⟩:=I.list hq
  obtain⟨u,hu,ru⟩:=rv.get hx
  obtain⟨f0,f1,f2,f3,f4,f5⟩:=hf it (by simp)
  refine wpAny_pyNext_list_item st p.isList (x:=u) (by simpa using hu) fun h' st' sb=> ?_
  have I1:Inv X pins σ H {s with heap:=h'}:=I.turned (t':=s.toks) (fun b o hb e=>(sb.2 b hb).trans e) f0 f1 f3 f4 f5
  obtain⟨o,e,c,d⟩:=id st'
  exact⟨u,rfl,Eu (s:={s with heap:=h'}) e c d (by decide) ⟨x,H,I1,ru,⟨rfl,fun ys hy=>by rw [I.list_inj hy hq]; exact hx⟩,st',fun b hb=>(hf b hb).1⟩⟩
 done:=by
  intro X hP hw hK hc i pins s σ H E I hf st hg
  subst hP hw hK
  obtain⟨xs,hq,hx⟩:=hg
  obtain⟨its,rv,p,hz⟩:=I.list hq
  obtain⟨f0,f1,f2,f3,f4,f5⟩:=hf it (by simp)
  have hl:=rv.length
  exact wpAny_pyNext_list_end (I.ok.hd hc) st p.isList (by simp; omega) fun h' eb=>⟨rfl,I.turned (t':=s.toks) (fun b o hb e=>eb b o hb e) f0 f1 f3 f4 f5⟩
 self:=fun _ _ _ _ _ st h=>wpAny_pyIter_listiter st h
theorem zc{P:av}{w:World}{K:aM}{tg:Expr}(a it:Addr):Turn P w K tg (LG K a) [it] it (fun i h=>h.IsTupleIter it a i) where
 mem:=by simp
 obj:=fun i h st b hb=>by
  have e:b=it:=by simpa using hb
  subst e
  obtain⟨o,e,c,d⟩:=st
  exact⟨o,e,fun v z=>by rw [d]at z; cases z⟩
 keep:=fun i h h' st k=>st.at fun o e=>k it (by simp) o e
 item:=by
  intro X hP hw hK hc i pins s σ H E I hf st hg
  subst hP hw hK
  obtain⟨xs,x,hq,hx⟩:=hg
  obtain⟨its,rv,p,hz⟩:=I.tuple hq
  obtain⟨u,hu,ru⟩:=rv.get hx
  obtain⟨f0,f1,f2,f3,f4,f5⟩:=hf it (by simp)
  refine wpAny_pyNext_tuple_item st (show s.heap.IsTuple a its.toArray from p) (x:=u) (by simpa using hu) fun h' st' sb=> ?_
  have I1:Inv X pins σ H {s with heap:=h'}:=I.turned (t':=s.toks) (fun b o hb e=>(sb.2 b hb).trans e) f0 f1 f3 f4 f5
  obtain⟨o,e,c,d⟩:=id st'
  exact⟨u,rfl,Eu (s:={s with heap:=h'}) e c d (by decide) ⟨x,H,I1,ru,⟨rfl,fun ys hy=>by rw [I.tuple_inj hy hq]; exact hx⟩,st',fun b hb=>(hf b hb).1⟩⟩
 done:=by
  intro X hP hw hK hc i pins s σ H E I hf st hg
  subst hP hw hK
  obtain⟨xs,hq,hx⟩:=hg
  obtain⟨its,rv,p,hz⟩:=I.tuple hq
  obtain⟨f0,f1,f2,f3,f4,f5⟩:=hf it (by simp)
  have hl:=rv.length
  exact wpAny_pyNext_tuple_end (I.ok.hd hc) st (show s.heap.IsTuple a its.toArray from p) (by simp; omega) fun h' eb=>⟨rfl,I.turned (t':=s.toks) (fun b o hb e=>eb b o hb e) f0 f1 f3 f4 f5⟩
 self:=fun _ _ _ _ _ st h=>wpAny_pyIter_tupleiter st h
theorem zK{P:av}{w:World}{K:aM}{tg:Expr}(it:Addr)(lo:Int)(n:Nat):Turn P w K tg (KG lo n) [it] it (fun i h=>IsRangeIter h it (lo+(i:Nat) * 1) ((n:Int) - (i:Nat)) 1) where
 mem:=by simp
 obj:=fun i h st b hb=>by
  have e:b=it:=by simpa using hb
  subst e
  exact⟨_,st,fun v z=>by
   have z':Data.fields _=Data.cell v:=z
   cases z'⟩
 keep:=fun i h h' st k=>k it (by simp) _ st
 item:=by
  intro X hP hw hK hc i pins s σ H E I hf st hg
  subst hP hw hK
  obtain⟨f0,f1,f2,f3,f4,f5⟩:=hf it (by simp)
  have W:=Walks.range (prog:=X.prog) (w:=X.w) (I.ok.hd hc) it lo 1 n
  refine W.item i s _ _ hg st fun v h' tk hv st' kk=> ?_
  obtain⟨t,rfl⟩:=hv
  have I1:Inv X pins σ H {s with heap:=h',toks:=tk}:=I.turned (fun b o hb e=>kk b o (by simpa using hb) e) f0 f1 f3 f4 f5
  refine⟨_,rfl,Eu (s:={s with heap:=h',toks:=tk}) (n:="range_iterator") st' rfl rfl (by decide) ⟨.int (lo+i),H,I1,⟨t, ?_⟩,⟨rfl,rfl⟩,st',fun b hb=>(hf b hb).1⟩⟩
  rw [Int.mul_one]
 done:=by
  intro X hP hw hK hc i pins s σ H E I hf st hg
  subst hP hw hK
  obtain⟨f0,f1,f2,f3,f4,f5⟩:=hf it (by simp)
  exact wpAny_pyNext_range_end (I.ok.hd hc) st (by have:n<=i:=hg; omega) fun h' eb=>⟨rfl,I.turned (t':=s.toks) (fun b o hb e=>eb b o hb e) f0 f1 f3 f4 f5⟩
 self:=fun _ _ _ _ _ st h=>wpAny_pyIter_rangeiter st h
end L2
namespace L2
open PySem PySem.Spec PyProof.Rows
section
variable {X:Cx}{tg:Expr}
def KP(K:aM)(tl:TE):TI:=fun σ H R=>tl σ H fun x H1=> ∃a,x= .ref a/\(∃xs,lq K H1 a xs)/\R (Ls K a) H1
def LJ(K:aM)(tl:TE):TI:=fun σ H R=>tl σ H fun x H1=> ∃a,x= .ref a/\(∃xs,i5 K H1 a xs)/\R (LG K a) H1
theorem Bi{l:Expr}{tl:TE}(hl:PE X l tl):PI X tg l (KP X.K tl):=by
 intro pins s σ H R I h
 refine eQ (hl pins s σ H _ I h) fun v s1 ⟨x,H1,I1,r1,q1⟩=> ?_
 obtain⟨a,e,⟨xs,hq⟩,q⟩:=q1
 subst e
 cases r1
 obtain⟨its,rv,p,hz⟩:=I1.list hq
 refine kX p.isList ?_
 refine⟨s1.heap.objs.size, [s1.heap.objs.size],_,_,H1,rfl,I1.kept (t':=s1.toks) fun b o e=>af _ e,CD a _,⟨_,ar _ rfl,rfl,rfl⟩,fun b hb=> ?_,q⟩
 have e:b=s1.heap.objs.size:=by simpa using hb
 subst e
 exact I1.fpOk (ay _) (I1.dW.fresh (ay _))
theorem I_{l:Expr}{tl:TE}(hl:PE X l tl):PI X tg l (LJ X.K tl):=by
 intro pins s σ H R I h
 refine eQ (hl pins s σ H _ I h) fun v s1 ⟨x,H1,I1,r1,q1⟩=> ?_
 obtain⟨a,e,⟨xs,hq⟩,q⟩:=q1
 subst e
 cases r1
 obtain⟨its,rv,p,hz⟩:=I1.tuple hq
 refine pP (show s1.heap.IsTuple a its.toArray from p) ?_
 refine⟨s1.heap.objs.size, [s1.heap.objs.size],_,_,H1,rfl,I1.kept (t':=s1.toks) fun b o e=>af _ e,zc a _,⟨_,ar _ rfl,rfl,rfl⟩,fun b hb=> ?_,q⟩
 have e:b=s1.heap.objs.size:=by simpa using hb
 subst e
 exact I1.fpOk (ay _) (I1.dW.fresh (ay _))
theorem yB{pins:List (Addr×Obj)}{σ:St}{H:Hp}{s:ai}{R:It->Hp->Prop}{E:Value->ai->Prop}{lo hi:Int}{t u v:Tok}{tk:Nat}(I:Inv X pins σ H s)(h1: -(2 ^ 62)<=lo)(h2:lo < 2 ^ 62)(h3: -(2 ^ 62)<=hi)(h4:hi < 2 ^ 62)
  (q:R (KG lo (hi - lo).toNat) H):wpAny (model X.prog X.w) X.A (sT (.ref s.heap.objs.size)) (L6 X pins σ tg R) E {s with heap:=s.heap.push {cls:= .type "range",data:= .fields #[.int lo t, .int hi u, .int 1 v]},toks:=tk}:=by
 refine wpAny_pyIter_range (IsRange.new ..) (small_one h1 h2 h3 h4) ?_
 have I1:Inv X pins σ H {s with heap:=s.heap.push {cls:= .type "range",data:= .fields #[.int lo t, .int hi u, .int 1 v]},toks:=tk}:=I.kept fun b o e=>af _ e
 refine⟨(s.heap.push {cls:= .type "range",data:= .fields #[.int lo t, .int hi u, .int 1 v]}).objs.size, [(s.heap.push {cls:= .type "range",data:= .fields #[.int lo t, .int hi u, .int 1 v]}).objs.size],_,_,H,rfl,
  I1.kept (t':=tk) fun b o e=>af _ e,zK _ lo (hi - lo).toNat, ?_,fun b hb=> ?_,q⟩
 ·have e1:lo+((0:Nat):Int) * 1=lo:=by simp
  have e2:(((hi - lo).toNat:Nat):Int) - ((0:Nat):Int)=Builtin.Range.rangeSize lo hi 1:=by rw [rangeSize_one]; split <;> omega
  show IsRangeIter _ _ (lo+((0:Nat):Int) * 1) ((((hi - lo).toNat:Nat):Int) - ((0:Nat):Int)) 1
  rw [e1,e2]
  exact ar _ rfl
 ·have e:b=(s.heap.push {cls:= .type "range",data:= .fields #[.int lo t, .int hi u, .int 1 v]}).objs.size:=by simpa using hb
  subst e
  exact I1.fpOk (ay _) (I1.dW.fresh (ay _))
def KN(ta:TA):TI:=fun σ H R=>ta σ H fun vs H1=> ∃j:Int,vs= [.int j]/\ -(2 ^ 62)<=j/\j < 2 ^ 62/\R (KG 0 j.toNat) H1
def Kv(ta:TA):TI:=fun σ H R=>ta σ H fun vs H1=> ∃i j:Int,vs= [.int i, .int j]/\(-(2 ^ 62)<=i/\i < 2 ^ 62/\ -(2 ^ 62)<=j/\j < 2 ^ 62)/\R (KG i (j - i).toNat) H1
theorem BK{a:Expr}{ta:TA}{p pos:Pos}(hg:Gl X "range")(hm:X.mg "range"=none)(ha:PA X [a] ta)(hs:ax [a] X.env= [(false,eval a X.env)]:=by rfl):PI X tg (.Call (.Name "range" p) [a] [] pos) (KN ta):=by
 intro pins s σ H R I h
 refine Call_ (nF I hg hm boot_range (gG (eQ (ha pos pins s σ H _ I h) fun us s1 ⟨vs,H1,I1,r1,q1⟩=> ?_) hs rfl))
 obtain⟨j,e,q1,q2,q⟩:=q1
 subst e
 cases r1 with
 | cons r rr=>
  cases rr
  obtain⟨t,rfl⟩:=r
  exact call_range_1 (yB I1 (by omega) (by omega) q1 q2 (by simpa using q))
theorem B0{a b:Expr}{ta:TA}{p pos:Pos}(hg:Gl X "range")(hm:X.mg "range"=none)(ha:PA X [a,b] ta)(hs:ax [a,b] X.env= [(false,eval a X.env),(false,eval b X.env)]:=by rfl)(hs2:ax [b] X.env= [(false,eval b X.env)]:=by rfl):
  PI X tg (.Call (.Name "range" p) [a,b] [] pos) (Kv ta):=by
 intro pins s σ H R I h
 refine Call_ (nF I hg hm boot_range (gG (eQ (ha pos pins s σ H _ I h) fun us s1 ⟨vs,H1,I1,r1,q1⟩=> ?_) (by rw [hs,hs2]) (by rw [hs2]; rfl)))
 obtain⟨i,j,e,⟨q1,q2,q3,q4⟩,q⟩:=q1
 subst e
 cases r1 with
 | cons r rr=>
  cases rr with
  | cons r' rr=>
   cases rr
   obtain⟨t,rfl⟩:=r
   obtain⟨t',rfl⟩:=r'
   exact call_range_2 (yB I1 q1 q2 q3 q4 q)
def Lz(wi:TI)(g:TG)(tb:TS):TS:=fun D σ H=>wi σ H fun J H1=> ∃W:Nat->Nat->St->Hp->Prop,(∃m,W 0 m σ H1)/\ ∀i m σ H,W i m σ H->
 (J.stop i H/\D.nx σ H)\/(J.go i H/\ ∃N:St->Hp->Prop,(∀σ' H',N σ' H'-> ∃m',m' < m/\W (i+1) m' σ' H')/\ ∀x H',J.LL i H x H'->g x σ H' fun σ2 H2=>tb {D with nx:=N,ct:=N,bk:=D.nx} σ2 H2)
def vg(fp:List Addr)(h:Heap):List (Addr×Obj):=fp.filterMap fun b=>(h.get? b).map fun o=>(b,o)
theorem iJ{fp:List Addr}{h:Heap}{b:Addr}{o:Obj}(hb:b∈fp)(e:h.get? b=some o):(b,o)∈vg fp h:=List.mem_filterMap.mpr ⟨b,hb,by rw [e]; rfl⟩
theorem CC{fp:List Addr}{h:Heap}{p:Addr×Obj}(hp:p∈vg fp h):p.1∈fp/\h.get? p.1=some p.2:=by
 obtain⟨b,hb,e⟩:=List.mem_filterMap.mp hp
 cases q:h.get? b with
 | none=>rw [q]at e; cases e
 | some o=>
  rw [q]at e
  have e':(b,o)=p:=aA e
  subst e'
  exact⟨hb,q⟩
theorem Inv.pinned{pins:List (Addr×Obj)}{σ:St}{H:Hp}{s:ai}{fp:List Addr}(I:Inv X pins σ H s)(hf: ∀b∈fp,g_ X pins H b)(ho: ∀b∈fp, ∃o,s.heap.get? b=some o/\ ∀v,o.data≠ .cell v):Inv X (pins ++ vg fp s.heap) σ H s:=
 I.pins_of fun p hp=>(bI.mp hp).elim (fun z=>I.pin p (bx _ z)) fun z=>by
  obtain⟨hb,e⟩:=CC z
  obtain⟨f0,f1,f2,_⟩:=hf p.1 hb
  obtain⟨o,e',d⟩:=ho p.1 hb
  rw [e]at e'; cases e'
  exact⟨e,f0,f1,f2,d⟩
theorem Inv.unpinned{pins pl:List (Addr×Obj)}{σ:St}{H:Hp}{s:ai}(I:Inv X (pins ++ pl) σ H s):Inv X pins σ H s:=I.pins_of fun p hp=>I.pin p (bx _ (fh _ hp))
theorem D_{iter:Expr}{body:List Stmt}{wi:TI}{g:TG}{tb:TS}{pos:Pos}(hp:sS (model X.prog X.w) X.A X.env X.xe)(hc:X.calm=true)(hi:PI X tg iter wi)(hg:PG X tg g)(hb:zv X body tb)
  (hs: ∀x,iO iter X.env x=pure x:=by intro _; rfl):PS X (.For tg iter body [] pos) (Lz wi g tb):=by
 intro pins s σ H D I h
 refine wpAny_For (eQ (hi pins s σ H _ I h) fun v s1 h1=>eQ h1 fun itv s2 h2=> ?_) hs
 obtain⟨it,fp,tn,J,H2,e,I2,T,st2,f2,W,⟨m0,w0⟩,turn⟩:=h2
 subst e
 have stat: ∀{H':Hp},(∀b∈fp,H' b=none)-> ∀b∈fp,g_ X pins H' b:=fun hn b hb=>⟨hn b hb,(f2 b hb).2⟩
 refine codeAny_forLoop_any (fun n s'=> ∃i σ' H',Inv X pins σ' H' s'/\tn i s'.heap/\(∀b∈fp,H' b=none)/\W i n σ' H') ?_ m0 ⟨0,σ,H2,I2,st2,fun b hb=>(f2 b hb).1,w0⟩
 rintro n s3 ⟨i,σ3,H3,I3,st3,fr3,w3⟩
 rcases turn i n σ3 H3 w3 with⟨stop,qn⟩ | ⟨go,N,hN,step⟩
 ·refine ig hp (eQ (T.done X rfl rfl rfl hc i pins s3 σ3 H3 X.xe I3 (stat fr3) st3 stop) fun r s4 ⟨hr,I4⟩=> ?_)
  subst hr
  exact uc ⟨σ3,H3,I4,qn⟩
 ·refine ig hp (eQ (T.item X rfl rfl rfl hc i pins s3 σ3 H3 X.xe I3 (stat fr3) st3 go) fun r s4 ⟨u,hr,h4⟩=> ?_)
  subst hr
  refine ig hp (eQ h4 fun _ s5 ⟨x,H5,I5,r5,y5,st5,fr5⟩=> ?_)
  have I5':=I5.pinned (stat fr5) (T.obj _ _ st5)
  refine ig hp (eQ (hg _ s5 σ3 H5 x u _ I5' r5 (step x H5 y5)) fun _ s6 ⟨σ6,H6,I6,q6⟩=> ?_)
  refine ig hp (eQ (hb _ s6 σ6 H6 _ I6 q6) fun f s7 q7=> ?_)
  have again: ∀{σ7:St} {H7:Hp},Inv X (pins ++ vg fp s5.heap) σ7 H7 s7->N σ7 H7-> ∃m,m < n/\ ∃i σ' H',Inv X pins σ' H' s7/\tn i s7.heap/\(∀b∈fp,H' b=none)/\W i m σ' H':=fun{σ7 H7} I7 n7=>by
   obtain⟨m',hm,w7⟩:=hN σ7 H7 n7
   refine⟨m',hm,i+1,σ7,H7,I7.unpinned,T.keep _ _ _ st5 fun b hb o e=>(I7.pin (b,o) (bx _ (bx _ (iJ hb e)))).1,fun b hb=> ?_,w7⟩
   obtain⟨o,e,d⟩:=T.obj _ _ st5 b hb
   exact(I7.pin (b,o) (bx _ (bx _ (iJ hb e)))).2.1
  cases f with
  | next=>obtain⟨σ7,H7,I7,n7⟩:=q7; exact again I7 n7
  | cont=>obtain⟨σ7,H7,I7,n7⟩:=q7; exact again I7 n7
  | brk=>obtain⟨σ7,H7,I7,q7⟩:=q7; exact⟨σ7,H7,I7.unpinned,q7⟩
  | ret v=>obtain⟨x7,σ7,H7,I7,r7,q7⟩:=q7; exact⟨x7,σ7,H7,I7.unpinned,r7,q7⟩
end
end L2
namespace L2
open PySem PySem.Spec PyProof.Rows
abbrev R2:=V->V->Hp->VK->Prop
def ng(X:Cx)(f:Value->Value->Sem Value)(r:R2):Prop:=
 ∀(pins:List (Addr×Obj)) (s:ai) (σ:St) (H:Hp) (x y:V) (v u:Value) (Q:VK),Inv X pins σ H s->RelV x v->RelV y u->r x y H Q->
  wpAny (model X.prog X.w) X.A (f v u) (EP X pins σ Q) X.xe s
def gz(X:Cx)(f:Value)(r:List V->Hp->VK->Prop):Prop:=
 ∀(pins:List (Addr×Obj)) (s:ai) (σ:St) (H:Hp) (xs:List V) (us:List Value) (Q:VK),Inv X pins σ H s->Vals xs us->r xs H Q->
  wpAny (model X.prog X.w) X.A (call f us) (EP X pins σ Q) X.xe s
def Ld(r:R2)(ta tb:TE):TE:=fun σ H Q=>ta σ H fun x H1=>tb σ H1 fun y H2=>r x y H2 Q
def rI(C:Int->Int->Prop)(g:Int->Int->V):R2:=fun x y H Q=> ∃i j,x= .int i/\y= .int j/\C i j/\Q (g i j) H
def Hj(g:Int->Int->V):R2:=fun x y H Q=> ∃i j,x= .int i/\y= .int j/\Q (g i j) H
section
variable {X:Cx}{a b c:Expr}{ta tb tc:TE}{pos:Pos}
theorem Jw(ha:PE X a ta)(hb:PE X b tb){pins:List (Addr×Obj)}{s:ai}{σ:St}{H:Hp}{R:V->V->Hp->Prop}(I:Inv X pins σ H s)
  (h:ta σ H fun x H1=>tb σ H1 fun y H2=>R x y H2){Q:Value->ai->Prop}{f:Value->Value->Sem Value}
  (hf: ∀v u s2 x y H2,Inv X pins σ H2 s2->RelV x v->RelV y u->R x y H2->wpAny (model X.prog X.w) X.A (f v u) Q X.xe s2):
  wpAny (model X.prog X.w) X.A (eval a X.env) (fun v s₁=>wpAny (model X.prog X.w) X.A (eval b X.env) (fun u s₂=>wpAny (model X.prog X.w) X.A (f v u) Q X.xe s₂) X.xe s₁) X.xe s:=by
 refine eQ (ha pins s σ H _ I h) fun v s1 ⟨x,H1,I1,r1,q1⟩=> ?_
 refine eQ (hb pins s1 σ H1 _ I1 q1) fun u s2 ⟨y,H2,I2,r2,q2⟩=> ?_
 exact hf v u s2 x y H2 I2 r1 r2 q2
theorem Dj{op:Operator}{r:R2}(ho:ng X (jt op) r)(ha:PE X a ta)(hb:PE X b tb):PE X (.BinOp a op b pos) (Ld r ta tb):=by
 intro pins s σ H Q I h
 exact wpAny_BinOp (Jw ha hb I h fun v u s2 x y H2 I2 rx ry q=>ho pins s2 σ H2 x y v u Q I2 rx ry q)
theorem L_{f:Value->Value->Sem Value}{C:Int->Int->Prop}{g:Int->Int->Int}
  (rule: ∀(i j:Int) (t u:Tok) (s:ai) (Q:Value->ai->Prop) (E:Value->ai->Prop),C i j->Q (.int (g i j) s.toks) {s with toks:=s.toks+1}->wpAny (model X.prog X.w) X.A (f (.int i t) (.int j u)) Q E s):
  ng X f (rI C fun i j=> .int (g i j)):=by
 intro pins s σ H x y v u Q I rx ry h
 obtain⟨i,j,rfl,rfl,hc,q⟩:=h
 obtain⟨t,rfl⟩:=rx
 obtain⟨t',rfl⟩:=ry
 exact rule i j t t' s _ _ hc ⟨.int (g i j),H,I.tok _,⟨_,rfl⟩,q⟩
theorem KL{f:Value->Value->Sem Value}{g:Int->Int->Int}
  (rule: ∀(i j:Int) (t u:Tok) (s:ai) (Q:Value->ai->Prop) (E:Value->ai->Prop),Q (.int (g i j) s.toks) {s with toks:=s.toks+1}->wpAny (model X.prog X.w) X.A (f (.int i t) (.int j u)) Q E s):
  ng X f (Hj fun i j=> .int (g i j)):=by
 intro pins s σ H x y v u Q I rx ry h
 obtain⟨i,j,rfl,rfl,q⟩:=h
 obtain⟨t,rfl⟩:=rx
 obtain⟨t',rfl⟩:=ry
 exact rule i j t t' s _ _ ⟨.int (g i j),H,I.tok _,⟨_,rfl⟩,q⟩
theorem GN{f:Value->Value->Sem Value}{g:Int->Int->Bool}
  (rule: ∀(i j:Int) (t u:Tok) (s:ai) (Q:Value->ai->Prop) (E:Value->ai->Prop),Q (.bool (g i j)) s->wpAny (model X.prog X.w) X.A (f (.int i t) (.int j u)) Q E s):
  ng X f (Hj fun i j=> .bl (g i j)):=by
 intro pins s σ H x y v u Q I rx ry h
 obtain⟨i,j,rfl,rfl,q⟩:=h
 obtain⟨t,rfl⟩:=rx
 obtain⟨t',rfl⟩:=ry
 exact rule i j t t' s _ _ ⟨.bl (g i j),H,I,rfl,q⟩
def Kt(i j:Int):Prop:=0 < j/\j < 1073741824
def Gp(i j:Int):Prop:=(-(2 ^ 64) < i/\i < 2 ^ 64)\/(-(2 ^ 64) < j/\j < 2 ^ 64)
theorem Gp.ok{i j:Int}(h:Gp i j):IntMulOk i j:=by
 rcases h with⟨h1,h2⟩ | ⟨h1,h2⟩
 ·exact .of_left (intBits_le_64 h1 h2)
 ·exact .of_right (intBits_le_64 h1 h2)
theorem JN:ng X (jt .Add) (Hj fun i j=> .int (i+j)):=KL fun _ _ _ _ _ _ _ q=>add_int q
theorem Jk:ng X (jt .Sub) (Hj fun i j=> .int (i - j)):=KL fun _ _ _ _ _ _ _ q=>sub_int q
theorem Jy:ng X (jt .Mult) (rI Gp fun i j=> .int (i * j)):=L_ fun _ _ _ _ _ _ _ hc q=>mul_int q hc.ok
theorem Gq:ng X (jt .FloorDiv) (rI Kt fun i j=> .int (i / j)):=L_ fun i j _ _ _ _ _ hc q=>by
 have h1:(0:Int) < j:=hc.1
 have h2:j < 1073741824:=hc.2
 exact floordiv_int (by omega) (by rw [Int.fdiv_eq_ediv_of_nonneg i (by omega)]; exact q) (.inl (PyProof.noPylong_small (by omega)))
theorem Jl:ng X (jt .Mod) (rI (fun _ j=>0 < j) fun i j=> .int (i % j)):=L_ fun i j _ _ _ _ _ hc q=>by
 have h1:(0:Int) < j:=hc
 exact mod_int' (by omega) (by rw [Int.fmod_eq_emod_of_nonneg i (by omega)]; exact q)
end
def Kg:V->V->Bool
 | .non, .non=>true | .non, .int _=>true | .int _, .non=>true | .non, .bl _=>true | .bl _, .non=>true | .non, .str _=>true | .str _, .non=>true
 | .int _, .int _=>true | .bl _, .bl _=>true | .str _, .str _=>true | .byt _, .byt _=>true
 | .int _, .str _=>true | .str _, .int _=>true | .bl _, .str _=>true | .str _, .bl _=>true
 | _,_=>false
def Nw:R2:=fun x y H Q=>Kg x y=true/\Q (.bl (decide (x=y))) H
def Np:R2:=fun x y H Q=>Kg x y=true/\Q (.bl (!decide (x=y))) H
theorem Bh{i j:Int}:decide (V.int i=V.int j)=(i==j):=by
 rw [fe]
 simp
theorem DW{i j:Bool}:decide (V.bl i=V.bl j)=(i==j):=by
 rw [fe]
 simp
theorem A1{i j:Str}:decide (V.str i=V.str j)=(i==j):=by
 rw [fe]
 simp
theorem Bo{i j:Array UInt8}:decide (V.byt i=V.byt j)=(i.toList==j.toList):=by
 rw [fe]
 cases i
 cases j
 simp
section
variable {X:Cx}{a b c:Expr}{ta tb tc:TE}{pos:Pos}
theorem cW{pins:List (Addr×Obj)}{σ:St}{H:Hp}{s:ai}{Q:VK}{k k':Bool}(I:Inv X pins σ H s)(q:Q (.bl k) H)(e:k=k'):EP X pins σ Q (.bool k') s:=by
 subst e
 exact⟨.bl k,H,I,rfl,q⟩
theorem KH:ng X (cH .Eq) Nw:=by
 intro pins s σ H x y v u Q I rx ry h
 obtain⟨hs,q⟩:=h
 cases x with
 | non=>
  cases rx
  cases y with
  | non=>cases ry; exact PySem.EqNone.eq_none_none (cW I q (by simp))
  | bl j=>cases ry; exact PySem.EqNone.eq_none_bool (cW I q (by simp))
  | int j=>obtain⟨t',rfl⟩:=ry; exact PySem.EqNone.eq_none_int (cW I q (by simp))
  | str j=>obtain⟨t',rfl⟩:=ry; exact PySem.EqNone.eq_none_str (cW I q (by simp))
  | _=>exact absurd (show false=true from hs) aC
 | bl i=>
  cases rx
  cases y with
  | non=>cases ry; exact PySem.EqNone.eq_bool_none (cW I q (by simp))
  | bl j=>cases ry; exact eq_bool (cW I q DW)
  | str j=>obtain⟨t',rfl⟩:=ry; exact PySem.EqMixed.eq_bool_str (cW I q (by simp))
  | _=>exact absurd (show false=true from hs) aC
 | int i=>
  obtain⟨t,rfl⟩:=rx
  cases y with
  | non=>cases ry; exact PySem.EqNone.eq_int_none (cW I q (by simp))
  | int j=>obtain⟨t',rfl⟩:=ry; exact eq_int (cW I q Bh)
  | str j=>obtain⟨t',rfl⟩:=ry; exact PySem.EqMixed.eq_int_str (cW I q (by simp))
  | _=>exact absurd (show false=true from hs) aC
 | str i=>
  obtain⟨t,rfl⟩:=rx
  cases y with
  | non=>cases ry; exact PySem.EqNone.eq_str_none (cW I q (by simp))
  | bl j=>cases ry; exact PySem.EqMixed.eq_str_bool (cW I q (by simp))
  | int j=>obtain⟨t',rfl⟩:=ry; exact PySem.EqMixed.eq_str_int (cW I q (by simp))
  | str j=>obtain⟨t',rfl⟩:=ry; exact eq_str (cW I q A1)
  | _=>exact absurd (show false=true from hs) aC
 | byt i=>
  obtain⟨t,rfl⟩:=rx
  cases y with
  | byt j=>obtain⟨t',rfl⟩:=ry; exact PySem.W.eq_bytes (cW I q Bo)
  | _=>exact absurd (show false=true from hs) aC
 | _=>cases y <;> exact absurd (show false=true from hs) aC
theorem KJ:ng X (cH .NotEq) Np:=by
 intro pins s σ H x y v u Q I rx ry h
 obtain⟨hs,q⟩:=h
 cases x with
 | non=>
  cases rx
  cases y with
  | non=>cases ry; exact PySem.EqNone.ne_none_none (cW I q (by simp))
  | bl j=>cases ry; exact PySem.EqNone.ne_none_bool (cW I q (by simp))
  | int j=>obtain⟨t',rfl⟩:=ry; exact PySem.EqNone.ne_none_int (cW I q (by simp))
  | str j=>obtain⟨t',rfl⟩:=ry; exact PySem.EqNone.ne_none_str (cW I q (by simp))
  | _=>exact absurd (show false=true from hs) aC
 | bl i=>
  cases rx
  cases y with
  | non=>cases ry; exact PySem.EqNone.ne_bool_none (cW I q (by simp))
  | bl j=>cases ry; exact ne_bool (cW I q (congrArg not DW))
  | str j=>obtain⟨t',rfl⟩:=ry; exact PySem.EqMixed.ne_bool_str (cW I q (by simp))
  | _=>exact absurd (show false=true from hs) aC
 | int i=>
  obtain⟨t,rfl⟩:=rx
  cases y with
  | non=>cases ry; exact PySem.EqNone.ne_int_none (cW I q (by simp))
  | int j=>obtain⟨t',rfl⟩:=ry; exact ne_int (cW I q (congrArg not Bh))
  | str j=>obtain⟨t',rfl⟩:=ry; exact PySem.EqMixed.ne_int_str (cW I q (by simp))
  | _=>exact absurd (show false=true from hs) aC
 | str i=>
  obtain⟨t,rfl⟩:=rx
  cases y with
  | non=>cases ry; exact PySem.EqNone.ne_str_none (cW I q (by simp))
  | bl j=>cases ry; exact PySem.EqMixed.ne_str_bool (cW I q (by simp))
  | int j=>obtain⟨t',rfl⟩:=ry; exact PySem.EqMixed.ne_str_int (cW I q (by simp))
  | str j=>obtain⟨t',rfl⟩:=ry; exact ne_str (cW I q (congrArg not A1))
  | _=>exact absurd (show false=true from hs) aC
 | byt i=>
  obtain⟨t,rfl⟩:=rx
  cases y with
  | byt j=>obtain⟨t',rfl⟩:=ry; exact PySem.W.ne_bytes (cW I q (congrArg not Bo))
  | _=>exact absurd (show false=true from hs) aC
 | _=>cases y <;> exact absurd (show false=true from hs) aC
theorem KS:ng X (cH .Lt) (Hj fun i j=> .bl (decide (i < j))):=GN fun _ _ _ _ _ _ _ q=>lt_int q
theorem Km:ng X (cH .LtE) (Hj fun i j=> .bl (decide (i<=j))):=GN fun _ _ _ _ _ _ _ q=>le_int q
theorem Kp:ng X (cH .Gt) (Hj fun i j=> .bl (decide (j < i))):=GN fun _ _ _ _ _ _ _ q=>gt_int q
theorem KC:ng X (cH .GtE) (Hj fun i j=> .bl (decide (j<=i))):=GN fun _ _ _ _ _ _ _ q=>ge_int q
theorem GP:ng X (cH .IsNot) (fun x y H Q=>y= .non/\Q (.bl (!decide (x= .non))) H):=by
 intro pins s σ H x y v u Q I rx ry h
 obtain⟨rfl,q⟩:=h
 cases ry
 refine isnot_none_gen (cW I q ?_)
 cases x <;> first
  | (cases rx; rfl)
  | (obtain⟨t,rfl⟩:=rx; rfl)
theorem vO(b:Expr){op:CmpOp}(h:op≠ .In:=by decide)(h2:op≠ .NotIn:=by decide):fE op b=false:=by
 have e1:(op==CmpOp.In)=false:=by cases op <;> first | rfl | exact absurd rfl h
 have e2:(op==CmpOp.NotIn)=false:=by cases op <;> first | rfl | exact absurd rfl h2
 cases b <;> simp [fE,e1,e2]
theorem Hc{op:CmpOp}{r:R2}(ho:ng X (cH op) r)(ha:PE X a ta)(hb:PE X b tb)(hm:fE op b=false):PE X (.Compare a [op] [b] pos) (Ld r ta tb):=by
 intro pins s σ H Q I h
 exact wpAny_Compare1 (Jw ha hb I h fun v u s2 x y H2 I2 rx ry q=>ho pins s2 σ H2 x y v u Q I2 rx ry q) hm
def Iw(t:TE):TT:=fun σ H Q=>t σ H fun x H'=> ∃k,x= .bl k/\Q k H'
theorem AH{op:CmpOp}{r:R2}(ho:ng X (cH op) r)(ha:PE X a ta)(hb:PE X b tb)(hm:fE op b=false):PT X (.Compare a [op] [b] pos) (Iw (Ld r ta tb)):=by
 intro pins s σ H Q I h
 refine wpAny_isTrue_Compare1 (eQ (ha pins s σ H _ I h) fun v s1 ⟨x,H1,I1,r1,q1⟩=>eQ (hb pins s1 σ H1 _ I1 q1) fun u s2 ⟨y,H2,I2,r2,q2⟩=>
  eQ (ho pins s2 σ H2 x y v u _ I2 r1 r2 q2) fun c s3 ⟨z,H3,I3,r3,k,e,q3⟩=> ?_) hm
 subst e
 cases r3
 exact fi ⟨H3,I3,q3⟩
def DD(r r':R2)(ta tb tc:TE):TE:=fun σ H Q=>ta σ H fun x H1=>tb σ H1 fun y H2=>r x y H2 fun z H3=> ∃k,z= .bl k/\
 (if k=true then tc σ H3 fun w' H4=>r' y w' H4 Q else Q (.bl false) H3)
theorem EF{op op':CmpOp}{r r':R2}(ho:ng X (cH op) r)(ho':ng X (cH op') r')(ha:PE X a ta)(hb:PE X b tb)(hc:PE X c tc)
  (hm:lastMarks [op,op'] [b,c]=false:=by with_unfolding_all rfl):PE X (.Compare a [op,op'] [b,c] pos) (DD r r' ta tb tc):=by
 intro pins s σ H Q I h
 refine Compare_chain (eQ (ha pins s σ H _ I h) fun v s1 ⟨x,H1,I1,r1,q1⟩=>chain_link (eQ (hb pins s1 σ H1 _ I1 q1) fun u s2 ⟨y,H2,I2,r2,q2⟩=>
  eQ (ho pins s2 σ H2 x y v u _ I2 r1 r2 q2) fun d s3 ⟨z,H3,I3,r3,k,e,q3⟩=> ?_)) hm
 subst e
 cases r3
 refine fi ?_
 cases k with
 | false=>exact ite_ff ⟨.bl false,H3,I3,rfl,q3⟩
 | true=>exact ite_tt (chain_last (eQ (hc pins s3 σ H3 _ I3 q3) fun w' s4 ⟨z',H4,I4,r4,q4⟩=>ho' pins s4 σ H4 y z' u w' Q I4 r2 r4 q4))
theorem Er{op op':CmpOp}{r r':R2}(ho:ng X (cH op) r)(ho':ng X (cH op') r')(ha:PE X a ta)(hb:PE X b tb)(hc:PE X c tc)
  (hm:lastMarks [op,op'] [b,c]=false:=by with_unfolding_all rfl):PT X (.Compare a [op,op'] [b,c] pos) (Iw (DD r r' ta tb tc)):=by
 intro pins s σ H Q I h
 refine isTrue_chain (eQ (ha pins s σ H _ I h) fun v s1 ⟨x,H1,I1,r1,q1⟩=>test_link (eQ (hb pins s1 σ H1 _ I1 q1) fun u s2 ⟨y,H2,I2,r2,q2⟩=>
  eQ (ho pins s2 σ H2 x y v u _ I2 r1 r2 q2) fun d s3 ⟨z,H3,I3,r3,k,e,q3⟩=> ?_)) hm
 subst e
 cases r3
 refine fi ?_
 cases k with
 | false=>
  obtain⟨k',e',q'⟩:=q3
  cases e'
  exact ite_ff ⟨H3,I3,q'⟩
 | true=>
  refine ite_tt (test_last (eQ (hc pins s3 σ H3 _ I3 q3) fun w' s4 ⟨z',H4,I4,r4,q4⟩=>eQ (ho' pins s4 σ H4 y z' u w' _ I4 r2 r4 q4) fun d' s5 ⟨z2,H5,I5,r5,k2,e2,q5⟩=> ?_))
  subst e2
  cases r5
  exact fi ⟨H5,I5,q5⟩
theorem vR:(sizeLine:Nat) < 2 ^ 63:=by rw [eL]; decide
theorem vals1{x:V}{us:List Value}(r:Vals [x] us): ∃u,us= [u]/\RelV x u:=by
 cases r with
 | cons r1 r2=>cases r2; exact⟨_,rfl,r1⟩
theorem vals2{x y:V}{us:List Value}(r:Vals [x,y] us): ∃u w',us= [u,w']/\RelV x u/\RelV y w':=by
 cases r with
 | cons r1 r2=>
  cases r2 with
  | cons r3 r4=>cases r4; exact⟨_,_,rfl,r1,r3⟩
theorem BU(hc:X.calm=true):gz X (.builtin "min") (fun xs H Q=> ∃i j,xs= [.int i, .int j]/\Q (.int (if j < i then j else i)) H):=by
 intro pins s σ H xs us Q I r h
 obtain⟨i,j,rfl,q⟩:=h
 obtain⟨u,w',rfl,⟨t,rfl⟩,⟨t',rfl⟩⟩:=vals2 r
 refine min_two_ints (I.ok.hd hc) fun h' tk k=>⟨_,H,I.kept k, ?_,q⟩
 by_cases hj:j < i
 ·rw [if_pos hj,if_pos hj]; exact⟨_,rfl⟩
 ·rw [if_neg hj,if_neg hj]; exact⟨_,rfl⟩
end
end L2
namespace L2
open PySem PySem.Spec PyProof.Rows
structure zS(h:Heap)(x dx C:Addr)(mA:Str->Option Value):Prop where
 obj:h.get? x=some (gj C dx)
 ns:h.Ns1 dx mA
 ne:dx≠x
theorem Cv{h:Heap}{dx:Addr}{mA:Str->Option Value}(n:h.Ns1 dx mA): ∃od,h.get? dx=some od/\ ∀name,wA name od=some (mA name):=by
 obtain⟨o,es,ep,ho,hd,hk,_,hm⟩:=n
 refine⟨o,ho,fun name=> ?_⟩
 have e:=hm name
 unfold nsFind findBy at e
 rw [<-Array.find?_toList]at e
 unfold wA
 rw [hd]
 dsimp only
 split
 ·rename_i y q
  rw [q]at e
  exact congrArg some e
 ·rename_i q
  rw [q]at e
  have a:es.toList.any (·.refKey)=false:=by
   rw [List.any_eq_false]
   intro y hy
   obtain⟨z,t,hkey⟩:=hk y (Array.mem_toList_iff.mp hy)
   simp [DictEntry.refKey,hkey]
  have a': ¬es.toList.any (·.refKey)=true:=by rw [a]; exact aC
  rw [if_neg a']
  exact congrArg some e
theorem zS.look{h:Heap}{x dx C:Addr}{mA:Str->Option Value}(I:zS h x dx C mA): ∃od,PySem.W.InstAt h x (gj C dx) C (some od)/\ ∀name,wA name od=some (mA name):=
 let⟨od,ho,hl⟩:=Cv I.ns
 ⟨od,⟨I.obj,rfl,rfl,ho⟩,hl⟩
section
variable {prog:av}{w:World}{A:bC}{E:Value->ai->Prop}{s:ai}{K:aM}{x dx C f:Addr}{mA:Str->Option Value}{name:Str}{v:Value}
theorem get_map{expr:Bool}{Q:Value->ai->Prop}(X:K.In s.heap)(I:zS s.heap x dx C mA)(hg:lO K C name=true)(hh:qm K C=true)
  (ha:cn K (.ref C) name=some none)(hv:mA name=some v)(hv':PySem.W.handedIn v=true)(h:Q v {s with toks:=s.toks+1}):
  wpAny (model prog w) A (getAttr (.ref x) name expr) Q E s:=by
 obtain⟨od,J,hl⟩:=I.look
 exact PySem.W.get_value X J (C6 hg).1 (PySem.W.findObj_own hh ha rfl (by rw [hl,hv])) hv' h
theorem EI{pl:Sem Bool}{Q:Value×List Value->ai->Prop}(X:K.In s.heap)(I:zS s.heap x dx C mA)(hg:lO K C name=true)
  (hf:cn K (.ref C) name=some (some (.ref f)))(ht:qo K (.ref f)=true)(hv:mA name=none)(h:Q (.ref f, [.ref x]) s):
  wpAny (model prog w) A (getMethod (.ref x) name pl) Q E s:=by
 obtain⟨od,J,hl⟩:=I.look
 exact PySem.W.method_fn X J (C6 hg).1 (C6 hg).2 hf (beq_iff_eq.mp ht) (by show(wA name od).map (·.isSome)=some false; rw [hl,hv]; rfl) h
theorem GY{ns:List Str}{Q:Unit->ai->Prop}(X:K.In s.heap)(I:zS s.heap x dx C mA)
  (hs:cn K (.ref C) "__setattr__"=some (some (.builtin "object.__setattr__")))(hp:Gd K C=true)(ht:IH K C name=some none)(hh:qm K C=true)
  (hw:K9 mA ns)(hsz:ns.length<=sizeLine)
  (h: ∀h',zS h' x dx C (fun y=>if y=name then some v else mA y)->aW dx s.heap h'->Q () {s with heap:=h',toks:=s.toks+2}):
  wpAny (model prog w) A (setAttr (.ref x) name v) Q E s:=by
 obtain⟨od,J,hl⟩:=I.look
 refine PySem.W.set_plain X J hs (PySem.W.osa_open (s:={s with toks:=s.toks+1}) (r:=none) X J hp ht fun b=> ?_)
 obtain⟨cd,hc,hd'⟩:=PySem.W.any_some hh
 have hx:s.heap.get? x=some ⟨.ref C,some dx, .plain, #[]⟩:=I.obj
 refine aa (ag (aa (aa (wpAny_loadPart hx (aa (PySem.W.Looks.here (s:={s with toks:=s.toks+1}) (PySem.W.looks_clsIn X hc) ?_))))))
 rw [hd']
 refine ag (a:=some dx) (aa (ag (aa ?_)))
 refine wpAny_nsSet1 (s:={s with toks:=s.toks+1}) I.ns fun h' hn2 hs2=> ?_
 obtain⟨oD,esD,epD,hoD,hdD,hcD⟩:=hn2.count (PySem.Within.cons name v hw)
 refine aa (wpAny_lookBehind hoD (by rw [hdD]; exact pastItsLine_dict (bj hcD (by rw [aH]; omega))) ?_)
 exact ag (h _ ⟨(hs2.2 _ (ot I.ne)).trans I.obj,hn2,I.ne⟩ hs2)
theorem E_{R:Result->ai->Prop}{vs:List Value}{kw:List (Str×Value)}(X:K.In s.heap)(hm:II K C=true)
  (hi:cn K (.ref C) "__init__"=some (some (.ref f)))(hf:PySem.W.typeIn K (.ref f)=some (.type "function"))
  (h:f9 (model prog w) (A.under (.builtin "type.__call__" ⟨.ref C::vs,kw⟩)) (.call (.ref f) ⟨.ref (s.heap.objs.size+1)::vs,kw⟩) (PySem.W.InitBack (s.heap.objs.size+1) R)
   {s with heap:=(s.heap.push dX).push (gj C s.heap.objs.size)}):
  f9 (model prog w) A (.call (.ref C) ⟨vs,kw⟩) R s:=by
 obtain⟨hh,g,d,t,os⟩:=s
 exact PySem.W.make_core (PySem.W.makes_of X hm) (PySem.W.looks_findIn X hi) (fun self=>PySem.W.bind_fn X self hf) (.inl rfl) h
end
def f7(f:Str)(v:V):List (Str×V)->List (Str×V)
 | []=> [(f,v)]
 | (g,x)::r=>if g=f then(g,v)::r else(g,x)::f7 f v r
theorem qa(f g:Str)(v:V): ∀fs:List (Str×V),(f7 f v fs).lookup g=if g=f then some v else fs.lookup g
 | []=>by
  show kY g [(f,v)]=_
  by_cases h:g=f
  ·have hb:(g==f)=true:=beq_iff_eq.mpr h
   simp only [kY,hb,if_pos h]
  ·have hb:(g==f)=false:=beq_eq_false_iff_ne.mpr h
   simp only [kY,hb,if_neg h]
 | (k,x)::r=>by
  have ih:=qa f g v r
  rw [show f7 f v ((k,x)::r)=(if k=f then(k,v)::r else(k,x)::f7 f v r)from rfl]
  by_cases hk:k=f
  ·rw [if_pos hk]
   by_cases h:g=k
   ·have hb:(g==k)=true:=beq_iff_eq.mpr h
    simp only [kY,hb,if_pos (h.trans hk)]
   ·have hb:(g==k)=false:=beq_eq_false_iff_ne.mpr h
    simp only [kY,hb,if_neg (fun e:g=f=>h (e.trans hk.symm))]
  ·rw [if_neg hk]
   by_cases h:g=k
   ·have hb:(g==k)=true:=beq_iff_eq.mpr h
    simp only [kY,hb,if_neg (fun e:g=f=>hk (h.symm.trans e))]
   ·have hb:(g==k)=false:=beq_eq_false_iff_ne.mpr h
    simp only [kY,hb]
    exact ih
theorem pO(f:Str)(v:V): ∀fs:List (Str×V),f∈(f7 f v fs).map (·.1)/\ ∀g,g∈fs.map (·.1)->g∈(f7 f v fs).map (·.1)
 | []=>⟨by simp [f7],fun g h=>by simp at h⟩
 | (k,x)::r=>by
  obtain⟨i1,i2⟩:=pO f v r
  rw [show f7 f v ((k,x)::r)=(if k=f then(k,v)::r else(k,x)::f7 f v r)from rfl]
  by_cases hk:k=f
  ·rw [if_pos hk]
   subst hk
   exact⟨by simp,fun g h=>by simpa using h⟩
  ·rw [if_neg hk]
   refine⟨?_,fun g h=> ?_⟩
   ·rw [aY]
    exact bY _ i1
   ·rw [aY]at h ⊢
    rcases aO.mp h with e | e
    ·exact aO.mpr (.inl e)
    ·exact bY _ (i2 g e)
theorem i4(f:Str)(v:V): ∀fs:List (Str×V),(f7 f v fs).length<=fs.length+1
 | []=>by simp [f7]
 | (k,x)::r=>by
  have ih:=i4 f v r
  rw [show f7 f v ((k,x)::r)=(if k=f then(k,v)::r else(k,x)::f7 f v r)from rfl]
  by_cases hk:k=f
  ·rw [if_pos hk,aH,aH]; omega
  ·rw [if_neg hk,aH,aH]; omega
theorem t_.some_of{v:V}{o:Option Value}(r:t_ (some v) o): ∃u,o=some u/\RelV v u:=by
 cases o with
 | none=>exact(show False from r).elim
 | some u=>exact⟨u,rfl,r⟩
theorem t_.none_of{o:Option Value}(r:t_ none o):o=none:=by
 cases o with
 | none=>rfl
 | some u=>exact(show False from r).elim
theorem BC{v:V}{u:Value}(r:RelV v u):PySem.W.handedIn u=true:=by
 cases v with
 | non=>cases (show u=bf from r); rfl
 | bl b=>cases (show u=fC b from r); rfl
 | int i=>obtain⟨t,e⟩:=(show ∃t,u=fQ i t from r); cases e; rfl
 | str x=>obtain⟨t,e⟩:=(show ∃t,u=yW x t from r); cases e; rfl
 | byt b=>obtain⟨t,e⟩:=(show ∃t,u=Value.bytes b t from r); cases e; rfl
 | flt b=>obtain⟨t,e⟩:=(show ∃t,u=Value.float b t from r); cases e; rfl
 | ref a=>cases (show u=aq a from r); rfl
 | ty n=>cases (show u=cz n from r); rfl
section
variable {P:av}{w:World}{H H':Hp}{h h':Heap}{a C dx:Addr}{fs fs':List (Str×V)}
theorem mD(dW:oq P w H h)(e:H a=some (.ins C dx fs)): ∃mA,zS h a dx C mA/\(∀f,t_ (fs.lookup f) (mA f))/\K9 mA (fs.map (·.1))/\fs.length<=1000/\H dx=some (.own a):=by
 obtain⟨d,z,ne,ob,mA,n,r,q⟩:=(show fI P w H h a (.ins C dx fs)from dW a _ e)
 exact⟨mA,⟨ob,n,ne⟩,r,q,z,d⟩
end
structure zq(K:aM)(C:Addr):Prop where
 pg:lO K C Str.empty=true
 hd:qm K C=true
 po:Gd K C=true
 sa:cn K (.ref C) "__setattr__"=some (some (.builtin "object.__setattr__"))
theorem zq.get{K:aM}{C:Addr}(c:zq K C)(f:Str):lO K C f=true:=c.pg
def iL(K:aM)(C:Addr)(f:Str):Prop:=cn K (.ref C) f=some none
theorem iL.taker{K:aM}{C:Addr}{f:Str}(n:iL K C f):IH K C f=some none:=by
 unfold IH
 rw [show cn K (.ref C) f=some none from n]
 rfl
structure Meth(K:aM)(C:Addr)(m:Str)(f:Addr):Prop where
 at_:cn K (.ref C) m=some (some (.ref f))
 fn:qo K (.ref f)=true
 kp:fS K (.ref f)=true
section
variable {X:Cx}{pins:List (Addr×Obj)}{σ:St}{H:Hp}{s:ai}{a C dx:Addr}{fs:List (Str×V)}{f:Str}{v:V}{A:bC}{E:Value->ai->Prop}
theorem za{b:Bool}{Q:Value->ai->Prop}(I:Inv X pins σ H s)(e:H a=some (.ins C dx fs))(c:zq X.K C)(n:iL X.K C f)(l:fs.lookup f=some v)
  (h: ∀u s',Inv X pins σ H s'->RelV v u->Q u s'):wpAny (model X.prog X.w) A (getAttr (.ref a) f b) Q E s:=by
 obtain⟨mA,O,r,_,_,_⟩:=mD I.dW e
 obtain⟨u,hu,ru⟩:=t_.some_of (v:=v) (o:=mA f) (by rw [<-l]; exact r f)
 exact get_map I.kIn O (c.get f) c.hd n hu (BC ru) (h u _ (I.tok _) ru)
theorem zT{m:Str}{g:Addr}{pl:Sem Bool}{Q:Value×List Value->ai->Prop}(I:Inv X pins σ H s)(e:H a=some (.ins C dx fs))(c:zq X.K C)(k:Meth X.K C m g)(l:fs.lookup m=none)
  (h:Q (.ref g, [.ref a]) s):wpAny (model X.prog X.w) A (getMethod (.ref a) m pl) Q E s:=by
 obtain⟨mA,O,r,_,_,_⟩:=mD I.dW e
 have hn:mA m=none:=t_.none_of (by rw [<-l]; exact r m)
 exact EI I.kIn O (c.get m) k.at_ k.fn hn h
theorem z9{y:V}{u:Value}{Q:Unit->ai->Prop}(I:Inv X pins σ H s)(e:H a=some (.ins C dx fs))(c:zq X.K C)(n:iL X.K C f)(hl:fs.length < 1000)(ry:RelV y u)
  (h: ∀s',Inv X pins σ (upd H a (.ins C dx (f7 f y fs))) s'->Q () s'):wpAny (model X.prog X.w) A (setAttr (.ref a) f u) Q E s:=by
 obtain⟨mA,O,r,wi,_,ho⟩:=mD I.dW e
 have hz:(fs.map (·.1)).length<=sizeLine:=by rw [ae,eL]; omega
 refine GY I.kIn O c.sa c.po n.taker c.hd wi hz fun h' O' sb=>h _ ?_
 have hd: ∃o,h'.get? dx=some o:=let⟨o,_,_,e',_⟩:=O'.ns; ⟨o,e'⟩
 refine I.write (x:=a) (e:=dx) (by rw [e]; exact c6) (.inr ho) (fun b q hb z=>(sb.2 b hb).trans z) hd ?_
 refine⟨by rw [cu O.ne]; exact ho, ?_,O.ne,O'.obj,_,O'.ns,fun g=> ?_,fun g hg=> ?_⟩
 ·have:=i4 f y fs; omega
 ·show t_ ((f7 f y fs).lookup g) (if g=f then some u else mA g)
  rw [qa]
  by_cases q:g=f
  ·rw [if_pos q,if_pos q]; exact ry
  ·rw [if_neg q,if_neg q]; exact r g
 ·by_cases q:g=f
  ·rw [q]; exact(pO f y fs).1
  ·refine(pO f y fs).2 g (wi g fun z=>hg ?_)
   show(if g=f then some u else mA g)=none
   rw [if_neg q]; exact z
theorem Inv.made(I:Inv X pins σ H s):Inv X pins σ (upd (upd H s.heap.objs.size (.own (s.heap.objs.size+1))) (s.heap.objs.size+1) (.ins C s.heap.objs.size []))
  {s with heap:=(s.heap.push dX).push (gj C s.heap.objs.size)}:=by
 have e1:(s.heap.push dX).get? s.heap.objs.size=some dX:=ar s.heap rfl
 have e2:((s.heap.push dX).push (gj C s.heap.objs.size)).get? (s.heap.objs.size+1)=some (gj C s.heap.objs.size):=by
  have:=ar (s.heap.push dX) (o:=gj C s.heap.objs.size) rfl
  rwa [bX]at this
 have e3:(s.heap.push dX).Ns s.heap.objs.size (fun _=>none):=⟨dX, #[],_,e1,rfl,(fun e he=>absurd he (by simp)),fun _=>rfl⟩
 have I1:=I.laid (a:=s.heap.objs.size) (o:= .own (s.heap.objs.size+1)) (h':=s.heap.push dX) (t':=s.toks) (fun b u q=>af _ q) (ay _) ⟨_,e1⟩
 refine I1.laid (a:=s.heap.objs.size+1) (o:= .ins C s.heap.objs.size []) (t':=s.toks) (fun b u q=>af _ q) (mq (bX _ _)) ?_
 have ne:s.heap.objs.size≠s.heap.objs.size+1:=aF (fU _)
 refine⟨by rw [cu ne,bG],bW _,ne,e2,fun _=>none,(Heap.Ns1.of_empty e3).at fun o q=>af _ q,fun _=>c6,fun y hy=>absurd rfl hy⟩
theorem Hm{prog:av}{w:World}{env:Env}{e:Expr}{f:Str}{pos:Pos}{s:ai}{Q:Value->ai->Prop}(hb:jk e f env (eval e env)=eval e env)
  (h:wpAny (model prog w) A (eval e env) (fun o s₁=>wpAny (model prog w) A (getAttr o f true) Q E s₁) E s):wpAny (model prog w) A (eval (.Attribute e f pos) env) Q E s:=
 Attribute_any_ h (by rw [arm_eval_Attribute,hb])
end
def Mf(K:aM)(ta:TE)(f:Str):TE:=fun σ H Q=>ta σ H fun x H1=> ∃a C dx fs v,x= .ref a/\H1 a=some (.ins C dx fs)/\zq K C/\iL K C f/\fs.lookup f=some v/\Q v H1
def LC(K:aM)(ta tv:TE)(f:Str):TS:=fun D σ H=>tv σ H fun y H1=>ta σ H1 fun x H2=> ∃a C dx fs,x= .ref a/\H2 a=some (.ins C dx fs)/\zq K C/\iL K C f/\fs.length < 1000/\
 D.nx σ (upd H2 a (.ins C dx (f7 f y fs)))
section
variable {X:Cx}{o e value:Expr}{f:Str}{pos pos' tpos:Pos}{ta tv:TE}
theorem JO(he:PE X e ta)(hb:jk e f X.env (eval e X.env)=eval e X.env):PE X (.Attribute e f pos) (Mf X.K ta f):=by
 intro pins s σ H Q I h
 refine Hm hb (eQ (he pins s σ H _ I h) fun u s1 ⟨x,H1,I1,rx,a,C,dx,fs,v,ex,ea,c,n,l,q⟩=> ?_)
 subst ex
 obtain rfl:u=aq a:=rx
 exact za I1 ea c n l fun u' s2 I2 ru=>⟨v,H1,I2,ru,q⟩
theorem ES(ha:PE X o ta)(hv:PE X value tv)(hs:cO value (some (.Attribute o f pos')) pos.line X.env=pure false):PS X (.Assign [.Attribute o f pos'] value pos) (LC X.K ta tv f):=by
 intro pins s σ H D I h
 refine plainObj_wpAny_Assign_Attribute (eQ (hv pins s σ H _ I h) fun u s1 ⟨y,H1,I1,ry,q⟩=>eQ (ha pins s1 σ H1 _ I1 q) fun ov s2 ⟨x,H2,I2,rx,a,C,dx,fs,ex,ea,c,n,l,q2⟩=> ?_) hs
 subst ex
 obtain rfl:ov=aq a:=rx
 exact z9 I2 ea c n l ry fun s3 I3=>⟨σ,_,I3,q2⟩
end
section
variable {X:Cx}{pins:List (Addr×Obj)}{σ:St}{H:Hp}{s:ai}{A:bC}{E:Value->ai->Prop}{Q:Value->ai->Prop}{c:Value}{b:Bool}
inductive rQ(K:aM)(H:Hp):V->Value->Prop where
 | non:rQ K H .non (.type "NoneType")
 | bl (x:Bool):rQ K H (.bl x) (.type "bool")
 | int (i:Int):rQ K H (.int i) (.type "int")
 | str (x:Str):rQ K H (.str x) (.type "str")
 | flt (x:UInt64):rQ K H (.flt x) (.type "float")
 | lst {a:Addr} {xs:List V} (e:H a=some (.lst xs)):rQ K H (.ref a) (.type "list")
 | frz {a:Addr} {o:Obj} {xs:List V} (e:H a=some (.frz o (.lst xs))):rQ K H (.ref a) (.type "list")
 | tup {a:Addr} {xs:List V} (e:H a=some (.tup xs)):rQ K H (.ref a) (.type "tuple")
 | dK {a:Addr} {kvs:List (Key×V)} (e:H a=some (.dK kvs)):rQ K H (.ref a) (.type "dict")
 | dT {a:Addr} {kvs:List (List Key×V)} (e:H a=some (.dT kvs)):rQ K H (.ref a) (.type "dict")
 | ins {a C dx:Addr} {fs:List (Str×V)} (e:H a=some (.ins C dx fs)) (cl:zq K C) (ha:cn K (.ref C) "__class__"=some (some (.builtin "object.__class__")))
   (hn:PySem.W.specialIn K (.builtin "object.__class__") "__get__"=some (some (.builtin "getset_descriptor.__get__"))) (htk:PySem.W.takesIn K (.builtin "object.__class__")=some true)
   (hm:PySem.W.mroIn K C (.type "object")=some true):rQ K H (.ref a) (.ref C)
end
end L2
namespace L2
open PySem PySem.Spec PyProof.Rows
structure fM(k:Nat)(A:bC):Prop where
 hd:A.handled=none
 dp:A.depth+3 * k+5 < recursionLimit
 un:A.units+16 * k+200 < cLine
theorem fM.mono{j k:Nat}{A:bC}(r:fM k A)(h:j<=k):fM j A:=⟨r.hd,by have:=r.dp; omega,by have:=r.un; omega⟩
theorem fM.deeper{k:Nat}{A:bC}(r:fM (k+1) A)(env:Env):fM k (A.deeper env):=
 ⟨r.hd,by have:=r.dp; show A.depth+1+3 * k+5 < _; omega,by have:=r.un; show A.units+3+16 * k+200 < _; omega⟩
theorem zJ{A:bC}{C:Addr}{us:List Value}{kw:List (Str×Value)}:(A.under (.builtin "type.__call__" ⟨.ref C::us,kw⟩)).depth=A.depth+1:=by
 first | rfl | simp [Around.under,Code.weight,Code.isCreation,Code.isGuard,Code.isCaller,Code.frames,Code.isFrame,guardIds]
theorem zd{A:bC}{C:Addr}{us:List Value}{kw:List (Str×Value)}:(A.under (.builtin "type.__call__" ⟨.ref C::us,kw⟩)).units=A.units+1:=by
 first | rfl | simp [Around.under,Code.cUnits,Code.frames,Code.isFrame]
theorem fM.make{k:Nat}{A:bC}(r:fM (k+1) A)(C:Addr)(us:List Value)(kw:List (Str×Value)):fM k (A.under (.builtin "type.__call__" ⟨.ref C::us,kw⟩)):=
 ⟨r.hd,by have:=r.dp; rw [zJ]; omega,by have:=r.un; rw [zd]; omega⟩
theorem fM.depth{k:Nat}{A:bC}(r:fM k A):A.depth < recursionLimit:=by have:=r.dp; omega
def K3:TA:=fun _ H Q=>Q [] H
def Kh(ta:TE)(tr:TA):TA:=fun σ H Q=>ta σ H fun x H1=>tr σ H1 fun xs H2=>Q (x::xs) H2
section
variable {X:Cx}{e:Expr}{es:List Expr}{te:TE}{t:TA}{pos:Pos}
theorem gD:PA X [] K3:=fun _ _ _ _ H Q I h=>Calls.spliced_nil ⟨[],H,I, .nil,h⟩
theorem dQ(ha:PE X e te)(hr:PA X es t)(hs:ax (e::es) X.env=(false,eval e X.env)::ax es X.env:=by rfl):PA X (e::es) (Kh te t):=by
 intro pos pins s σ H Q I h
 rw [hs]
 show wpAny _ _ (spliced ((false,eval e X.env)::e_ pos (ax es X.env))) _ _ s
 refine Calls.spliced_cons (eQ (ha pins s σ H _ I h) fun u s1 ⟨x,H1,I1,r1,q1⟩=> ?_)
 exact eQ (hr pos pins s1 σ H1 _ I1 q1) fun us s2 ⟨xs,H2,I2,r2,q2⟩=>⟨x::xs,H2,I2, .cons r1 r2,q2⟩
def L4(t:TA):TE:=fun σ H Q=>t σ H fun xs H1=>xs.length<=sizeLine/\ ∀p,H1 p=none->Q (.ref p) (upd H1 p (.tup xs))
def LN(t:TA):TE:=fun σ H Q=>t σ H fun xs H1=>xs.length<=sizeLine/\ ∀p,H1 p=none->Q (.ref p) (upd H1 p (.lst xs))
theorem Fm{x1}(h:PA X es t):PE X (.Tuple es x1 pos) (L4 t):=by
 intro pins s σ H Q I hq
 refine wpAny_Tuple_spliced (eQ (h pos pins s σ H _ I hq) fun us s1 ⟨xs,H1,I1,r,z,q⟩=>⟨by rw [<-r.length]; exact z, ?_⟩)
 have hf:H1 s1.heap.objs.size=none:=I1.dW.fresh (ay _)
 refine⟨.ref s1.heap.objs.size,upd H1 s1.heap.objs.size (.tup xs),I1.laid (t':=s1.toks) (fun b u e=>af _ e) (ay _) ?_,rfl,q _ hf⟩
 exact⟨z,us,r,⟨_,ar _ rfl,rfl,_,rfl⟩⟩
theorem IX(h:PA X es t):PE X (.List es pos) (LN t):=by
 intro pins s σ H Q I hq
 refine wpAny_List_spliced (eQ (h pos pins s σ H _ I hq) fun us s1 ⟨xs,H1,I1,r,z,q⟩=>⟨by rw [<-r.length]; exact z, ?_⟩)
 have hf:H1 s1.heap.objs.size=none:=I1.dW.fresh (ay _)
 refine⟨.ref s1.heap.objs.size,upd H1 s1.heap.objs.size (.lst xs),I1.laid (t':=s1.toks) (fun b u e=>af _ e) (ay _) ?_,rfl,q _ hf⟩
 exact⟨z,us,0,r,ar _ rfl⟩
end
abbrev Sp:=List V->Hp->VK->XK->Prop
abbrev gM:=List Env->Hp->ai->XK->Value->ai->Prop
structure zm(P:av)(w:World)(K:aM)(mg:Str->Option Value)(base:Heap)(A:bC)(outer:List Env)(s:ai)(H:Hp):Prop where
 frames:A.frames=some outer
 mod:Mod K mg base
 bs: ∀b o,base.get? b=some o->s.heap.get? b=some o/\H b=none
 zl:base.objs.size<=s.heap.objs.size
 oG:s.heap.FunFrames base outer
 Hf: ∀b∈yR outer,H b=none
 dW:oq P w H s.heap
 bare:ml s.gens
def CE(outer:List Env)(P:av)(w:World)(H:Hp)(s:ai)(Q:VK)(u:Value)(s':ai):Prop:=
 ∃v H',s'.os=s.os/\ml s'.gens/\Un (yR outer) [] H H' s.heap s'.heap/\oq P w H' s'.heap/\RelV v u/\Q v H'
def CR(CX:gM)(outer:List Env)(P:av)(w:World)(H:Hp)(s:ai)(Q:VK)(E:XK)(r:Result)(s':ai):Prop:=
 match r with
 | .ok (.ret u)=>CE outer P w H s Q u s'
 | .ok _=>False
 | .error e=>CX outer H s E e s'
structure lN(P:av)(w:World)(K:aM)(mg:Str->Option Value)(base:Heap)(CX:gM)(k:Nat)(f:Addr)(fd:bg)(ps:List Str)(sp:Sp):Prop where
 len: ∀vs H Q E,sp vs H Q E->vs.length=ps.length
 run: ∀(A:bC) (outer:List Env) (s:ai) (H:Hp) (args:Args) (us:List Value) (vs:List V) (Q:VK) (E:XK),fM k A->zm P w K mg base A outer s H->BindsTo s fd args (ps.zip us)->Vals vs us->sp vs H Q E->
  f9 (model P w) A (.call (.ref f) args) (CR CX outer P w H s Q E) s
theorem lN.imp{P:av}{w:World}{K:aM}{mg:Str->Option Value}{base:Heap}{CX:gM}{k:Nat}{f:Addr}{fd:bg}{ps:List Str}{sp sp':Sp}(F:lN P w K mg base CX k f fd ps sp)
  (h: ∀vs H Q E,sp' vs H Q E->sp vs H Q E):lN P w K mg base CX k f fd ps sp':=
 ⟨fun vs H Q E q=>F.len vs H Q E (h _ _ _ _ q),fun A outer s H args us vs Q E hr he hb hv hs=>F.run A outer s H args us vs Q E hr he hb hv (h _ _ _ _ hs)⟩
theorem zm.make{P:av}{w:World}{K:aM}{mg:Str->Option Value}{base:Heap}{A:bC}{outer:List Env}{s:ai}{H:Hp}(e:zm P w K mg base A outer s H)(C:Addr)(us:List Value)(kw:List (Str×Value)):
  zm P w K mg base (A.under (.builtin "type.__call__" ⟨.ref C::us,kw⟩)) outer s H:=⟨by first | exact e.frames | (simpa [Around.under,Code.envs,Code.isFrame,pushEnvs]using e.frames),e.mod,e.bs,e.zl,e.oG,e.Hf,e.dW,e.bare⟩
section
variable {X:Cx}{pins:List (Addr×Obj)}{σ:St}{H:Hp}{s s':ai}
theorem Inv.env0(I:Inv X pins σ H s):zm X.prog X.w X.K X.mg X.base X.A X.stack s H:=
 ⟨I.ok.frames,I.ok.mod,I.bs,bj I.ok.zl I.sz,I.stack,I.stkFree,I.dW,I.bare⟩
theorem Inv.after{Q:VK}{u:Value}(I:Inv X pins σ H s)(h:CE X.stack X.prog X.w H s Q u s'):EP X pins σ Q u s':=by
 obtain⟨v,H',os,bare,un,dW,r,q⟩:=h
 obtain⟨hh,g,d,t,os'⟩:=s'
 obtain rfl:os'=s.os:=os
 exact⟨v,H',I.call (h':=hh) (g':=g) (d':=d) (t':=t) (ch:= []) un dW bare (fun b z=>absurd z (by simp)),r,q⟩
end
def K2(sp:Sp)(dvs:List V)(E:XK)(t:TA):TE:=fun σ H Q=>t σ H fun vs H1=>sp (vs ++ dvs) H1 Q E
def KU(C:Addr)(m:Str)(sp:Sp)(dvs:List V)(E:XK)(ta:TE)(t:TA):TE:=fun σ H Q=>ta σ H fun x H1=> ∃a dx fs,x= .ref a/\H1 a=some (.ins C dx fs)/\fs.lookup m=none/\
 t σ H1 fun vs H2=>sp (x::(vs ++ dvs)) H2 Q E
def KZ(C:Addr)(sp:Sp)(dvs:List V)(E:XK)(t:TA):TE:=fun σ H Q=>t σ H fun vs H1=> ∀x dx,H1 x=none->H1 dx=none->dx≠x->
 sp (.ref x::(vs ++ dvs)) (upd (upd H1 dx (.own x)) x (.ins C dx [])) (fun v H2=>v= .non/\Q (.ref x) H2) E
def Binds(K:aM)(fd:bg)(ps:List Str)(ds:List Value):Prop:=
 ∀(s:ai) (us:List Value),K.In s.heap->(us ++ ds).length=ps.length->BindsTo s fd ⟨us, []⟩ (ps.zip (us ++ ds))
theorem Binds.all{K:aM}{fd:bg}{ps:List Str}(h: ∀us:List Value,us.length=ps.length->wB fd ⟨us, []⟩=pure (ps.zip us)):Binds K fd ps []:=fun s us _ hl=>by
 rw [bJ]at hl ⊢
 exact .of_eq (h us hl)
def Passes(CX:gM)(X:Cx)(E:XK):Prop:= ∀(pins:List (Addr×Obj)) (σ:St) (H:Hp) (s:ai) (e:Value) (s':ai),Inv X pins σ H s->CX X.stack H s E e s'->X.xe e s'
section
variable {X:Cx}{CX:gM}{k:Nat}{f C:Addr}{fd:bg}{ps:List Str}{sp:Sp}{dvs:List V}{ds:List Value}{E:XK}{x m:Str}{p pos apos:Pos}{e o:Expr}{es:List Expr}{ta:TE}{t:TA}
theorem E8{pins:List (Addr×Obj)}{σ:St}{H:Hp}{s:ai}{Q:VK}{us:List Value}{vs:List V}(F:lN X.prog X.w X.K X.mg X.base CX k f fd ps sp)(hr:fM k X.A)(hb:Binds X.K fd ps ds)(hd:Vals dvs ds)(hx:Passes CX X E)
  (I:Inv X pins σ H s)(r:Vals vs us)(h:sp (vs ++ dvs) H Q E):wpAny (model X.prog X.w) X.A (call (.ref f) us) (EP X pins σ Q) X.xe s:=by
 have r2:Vals (vs ++ dvs) (us ++ ds):=r.append hd
 have hl:(us ++ ds).length=ps.length:=by rw [<-r2.length]; exact F.len _ _ _ _ h
 refine wpAny_call (mr (F.run X.A X.stack s H ⟨us, []⟩ (us ++ ds) (vs ++ dvs) Q E hr I.env0 (hb s us I.kIn hl) r2 h) fun r s' hq=> ?_)
 cases r with
 | error e=>exact hx pins σ H s e s' I hq
 | ok fl=>
  cases fl with
  | ret u=>exact I.after hq
  | next=>exact fD hq
  | brk=>exact fD hq
  | cont=>exact fD hq
theorem vQ(F:lN X.prog X.w X.K X.mg X.base CX k f fd ps sp)(hr:fM k X.A)(hg:Gl X x)(hm:X.mg x=some (.ref f))(hk:fS X.K (.ref f)=true)(hb:Binds X.K fd ps ds)(hd:Vals dvs ds)(hx:Passes CX X E)
  (ha:PA X (e::es) t)(hdb:(x==("__debug__":Str))=false:=by decide)(he:ax (e::es) X.env=(false,eval e X.env)::ax es X.env:=by rfl)(hpl:(e_ pos (ax es X.env)).any (·.1)=false:=by rfl):
  PE X (.Call (.Name x p) (e::es) [] pos) (K2 sp dvs E t):=by
 intro pins s σ H Q I h
 refine pQ (qE I hg hm ?_ hdb)
 refine PySem.W.callWith_K (h₀:=X.base) I.ok.mod.Cj hk (eQ (ha pos pins s σ H _ I h) fun us s1 ⟨vs,H1,I1,r,q⟩=>⟨I1.kIn, ?_⟩) he hpl
 exact E8 F hr hb hd hx I1 r q
theorem Dm{pl:Sem Bool}(he:PE X o ta)(c:zq X.K C)(hm:Meth X.K C m f)(F:lN X.prog X.w X.K X.mg X.base CX k f fd ps sp)(hr:fM k X.A)(hb:Binds X.K fd ps ds)(hd:Vals dvs ds)(hx:Passes CX X E)
  (ht:eval (.Call (.Attribute o m apos) [] [] pos) X.env=(do
   let ov<-eval o X.env
   standAt apos.atName
   let(f,first)<-jW [ov] (getMethod ov m pl)
   callWith pos f first (e_ pos (ax [] X.env)) (backToKw pos (CV [] X.env))):=by rfl):
  PE X (.Call (.Attribute o m apos) [] [] pos) (KU C m sp dvs E ta K3):=by
 intro pins s σ H Q I h
 refine PySem.W.methodCall_KW (pl:=pl) (eQ (he pins s σ H _ I h) fun u s1 ⟨x,H1,I1,rx,a,dx,fs,ex,ea,l,q⟩=> ?_) ht
 subst ex
 obtain rfl:u=aq a:=rx
 refine zT I1 ea c hm l ?_
 exact PySem.W.callWith_K0 (first:= [.ref a]) I1.kIn hm.kp (E8 (us:= [.ref a]) (vs:= [.ref a]) F hr hb hd hx I1 (.cons rfl .nil) q)
structure Mk(K:aM)(C f:Addr):Prop where
 makes:II K C=true
 init:cn K (.ref C) "__init__"=some (some (.ref f))
 fn:qo K (.ref f)=true
 kp:fS K (.ref C)=true
theorem Ds{pins:List (Addr×Obj)}{σ:St}{H:Hp}{s:ai}{Q:VK}{us:List Value}{vs:List V}(M:Mk X.K C f)(F:lN X.prog X.w X.K X.mg X.base CX k f fd ps sp)(hr:fM (k+1) X.A)(hb:Binds X.K fd ps ds)(hd:Vals dvs ds)
  (hx:Passes CX X E)(I:Inv X pins σ H s)(r:Vals vs us)
  (h: ∀x dx,H x=none->H dx=none->dx≠x->sp (.ref x::(vs ++ dvs)) (upd (upd H dx (.own x)) x (.ins C dx [])) (fun v H2=>v= .non/\Q (.ref x) H2) E):
  wpAny (model X.prog X.w) X.A (call (.ref C) us) (EP X pins σ Q) X.xe s:=by
 have hq:=h (s.heap.objs.size+1) s.heap.objs.size (I.dW.fresh (tj _)) (I.dW.fresh (ay _)) (aF (fU _))
 have I2:=Inv.made (C:=C) I
 have r2:Vals (V.ref (s.heap.objs.size+1)::(vs ++ dvs)) (aq (s.heap.objs.size+1)::(us ++ ds)):= .cons rfl (r.append hd)
 have hl:(aq (s.heap.objs.size+1)::us ++ ds).length=ps.length:=by
  have e:=r2.length
  rw [F.len _ _ _ _ hq]at e
  exact e.symm
 refine wpAny_call (E_ (f:=f) I.kIn M.makes M.init (beq_iff_eq.mp M.fn) (mr (F.run _ X.stack _ _ ⟨aq (s.heap.objs.size+1)::us, []⟩ (aq (s.heap.objs.size+1)::(us ++ ds)) _ _ E (hr.make C us [])
  (I2.env0.make C us []) (hb _ (aq (s.heap.objs.size+1)::us) I2.kIn hl) r2 hq) fun r s' hq'=> ?_))
 cases r with
 | error e=>exact hx pins σ _ _ e s' I2 hq'
 | ok fl=>
  cases fl with
  | ret u=>
   obtain⟨v,H',I3,rv,ev,q3⟩:=I2.after hq'
   subst ev
   exact⟨rv,⟨V.ref (s.heap.objs.size+1),H',I3,rfl,q3⟩⟩
  | next=>exact fD hq'
  | brk=>exact fD hq'
  | cont=>exact fD hq'
theorem Hq(M:Mk X.K C f)(F:lN X.prog X.w X.K X.mg X.base CX k f fd ps sp)(hr:fM (k+1) X.A)(hg:Gl X x)(hm:X.mg x=some (.ref C))(hb:Binds X.K fd ps ds)(hd:Vals dvs ds)(hx:Passes CX X E)
  (ha:PA X (e::es) t)(hdb:(x==("__debug__":Str))=false:=by decide)(he:ax (e::es) X.env=(false,eval e X.env)::ax es X.env:=by rfl)(hpl:(e_ pos (ax es X.env)).any (·.1)=false:=by rfl):
  PE X (.Call (.Name x p) (e::es) [] pos) (KZ C sp dvs E t):=by
 intro pins s σ H Q I h
 refine pQ (qE I hg hm ?_ hdb)
 refine PySem.W.callWith_K (h₀:=X.base) I.ok.mod.Cj M.kp (eQ (ha pos pins s σ H _ I h) fun us s1 ⟨vs,H1,I1,r,q⟩=>⟨I1.kIn, ?_⟩) he hpl
 exact Ds M F hr hb hd hx I1 r q
end
structure bQ(N P:List Str)(sc:Scope):Prop where
 kind:sc.kind= .function
 co:sc.isCoroutine=false
 gen:sc.isGenerator=false
 nd:N.Nodup
 pre:N.take P.length=P
 par: ∀x∈P,sc.names.lookup x=some .local\/sc.names.lookup x=some .cell
 JK: ∀y∈sc.names,y.2≠ .free
theorem uC{kindOf:Str->Option iP}{x:Str}: ∀{binds:List (Str×Value)} {m:Str->Option Value},(∀v,(x,v)∉binds)->bindL kindOf binds m x=m x
 | [],_,_=>rfl
 | (n,v)::r,m,h=>by
  unfold bindL
  rw [uC fun w hw=>h w (bY _ hw)]
  split
  ·have:x≠n:=by rintro rfl; exact h v bO
   simp [this]
  ·rfl
theorem uE{kindOf:Str->Option iP}{x:Str}: ∀{binds:List (Str×Value)} {m:Str->Option Value},(∀v,(x,v)∉binds)->bindC kindOf binds m x=m x
 | [],_,_=>rfl
 | (n,v)::r,m,h=>by
  unfold bindC
  rw [uE fun w hw=>h w (bY _ hw)]
  split
  ·rfl
  ·have:x≠n:=by rintro rfl; exact h v bO
   simp [this]
theorem uv{kindOf:Str->Option iP}{x:Str}{v:Value}: ∀{P:List Str} {vs:List Value} {i:Nat} {m:Str->Option Value},P.Nodup->P[i]? =some x->vs[i]? =some v->kindOf x=some .local->
  bindL kindOf (P.zip vs) m x=some v
 | [],_,_,_,_,h,_,_=>by simp at h
 | _::_, [],_,_,_,_,h,_=>by simp at h
 | p::P,w::vs,0,m,nd,h1,h2,hk=>by
  simp at h1 h2; subst h1; subst h2
  show bindL kindOf ((p,w)::P.zip vs) m p=_
  unfold bindL
  rw [uC fun v hv=>(d_.mp nd).1 (jM hv).1,if_pos hk]
  simp
 | p::P,w::vs,i+1,m,nd,h1,h2,hk=>by
  show bindL kindOf ((p,w)::P.zip vs) m x=_
  unfold bindL
  exact uv (i:=i) (d_.mp nd).2 (by simpa using h1) (by simpa using h2) hk
theorem uy{kindOf:Str->Option iP}{x:Str}{v:Value}: ∀{P:List Str} {vs:List Value} {i:Nat} {m:Str->Option Value},P.Nodup->P[i]? =some x->vs[i]? =some v->kindOf x≠some .local->
  bindC kindOf (P.zip vs) m x=some v
 | [],_,_,_,_,h,_,_=>by simp at h
 | _::_, [],_,_,_,_,h,_=>by simp at h
 | p::P,w::vs,0,m,nd,h1,h2,hk=>by
  simp at h1 h2; subst h1; subst h2
  show bindC kindOf ((p,w)::P.zip vs) m p=_
  unfold bindC
  rw [uE fun v hv=>(d_.mp nd).1 (jM hv).1,if_neg hk]
  simp
 | p::P,w::vs,i+1,m,nd,h1,h2,hk=>by
  show bindC kindOf ((p,w)::P.zip vs) m x=_
  unfold bindC
  exact uy (i:=i) (d_.mp nd).2 (by simpa using h1) (by simpa using h2) hk
def start(N:List Str)(vs:List V):St:=vs.map some ++ eR (N.length - vs.length) none
def nc(CX:gM)(P:av)(w:World)(K:aM)(mg:Str->Option Value)(base:Heap)(N:List Str)(qual:Str)(scope:Scope)(f:Addr)(cd:Value)(A:bC)(outer:List Env)(s:ai)(H:Hp)(E:XK):Cx where
 prog:=P
 w:=w
 K:=K
 mg:=mg
 base:=base
 A:=A.deeper (lF qual scope s.heap.objs.size f cd)
 N:=N
 s₀:=s
 H₀:=H
 env:=lF qual scope s.heap.objs.size f cd
 outer:=outer
 stack:=lF qual scope s.heap.objs.size f cd::outer
 ex:= []
 calm:=true
 fn:=fun _=>true
 pn:= []
 xe:=fun e s'=>wpAny (model P w) (A.deeper (lF qual scope s.heap.objs.size f cd)) (leaving (lF qual scope s.heap.objs.size f cd) e) (fun _ s''=>CX outer H s E e s'') (fun e' s''=>CX outer H s E e' s'') s'
theorem yE{sc:Scope}{n:Nat}{x:Str}(h:sc.names.lookup x=some .cell): ∃c,(cellsFrom n sc.names []).lookup x=some c:=by
 have q:=PySem.W.cellsFrom_some sc.names n [] (.inl h)
 exact Option.isSome_iff_exists.mp q
theorem CH{CX:gM}{P:av}{w:World}{K:aM}{mg:Str->Option Value}{base:Heap}{N ps:List Str}{qual:Str}{scope:Scope}{f:Addr}{cd:Value}{A:bC}{outer:List Env}{s s1:ai}{H:Hp}{E:XK}{us:List Value}{vs:List V}
  (S:bQ N ps scope)(hd:A.handled=none)(e0:zm P w K mg base A outer s H)(hl:vs.length=ps.length)(r:Vals vs us)
  (x:InCallC s s.heap.objs.size (bindL (lF qual scope s.heap.objs.size f cd).kindOf (ps.zip us) fun _=>none) (cellsFrom (s.heap.objs.size+1) scope.names []) (bindC (lF qual scope s.heap.objs.size f cd).kindOf (ps.zip us) fun _=>none) s1):
  Inv (nc CX P w K mg base N qual scope f cd A outer s H E) [] (start N vs) H s1:=by
 have hpl:ps.length<=N.length:=by have:=congrArg kZ S.pre; rw [br]at this; omega
 obtain⟨h1,tk,rfl,hk⟩:=x.done
 have noA: ∀b:Addr,b∉(nc CX P w K mg base N qual scope f cd A outer s H E).ex:=fun b z=>absurd (show b∈([]:List Addr)from z) (by simp)
 refine⟨⟨e0.mod,S.kind,rfl,rfl,ay _,fun y z c h1 h2=> ?_,fun y hy=> ?_,fun y c _ h=> ?_,fun _=>hd,Around.frames_deeper e0.frames, .inr ⟨rfl,rfl⟩,fun b z=>absurd z (noA b),e0.bs,e0.zl,fun b _ _=>noA b,fun b z=>absurd z (noA b),e0.oG,e0.Hf⟩,
  rfl,e0.bare,Un.kept hk,⟨_,x.toInCall.ns,fun i y v h1 h2 h3=> ?_⟩,fun y c h=>⟨_,x.cell y c h⟩,e0.dW.fresh (ay _),fun y c h=> ?_,fun p hp=>absurd (show p∈([]:List (Addr×Obj))from hp) (by simp),e0.dW.kept hk, ?_⟩
 ·exact name_of_addr x.apart (b9 h1) (b9 h2)
 ·have hy:scope.names.lookup y=some .cell\/scope.names.lookup y=some .free:=hy
  rcases hy with hy | hy
  ·exact yE hy
  ·exact absurd rfl (S.JK _ (b9 hy))
 ·exact iN (x.above y c (b9 h))
 ·have hi:i < vs.length:=by
   unfold start at h2
   by_cases hi:i < vs.length
   ·exact hi
   ·rw [eS (by simpa using hi)]at h2
    rw [yX]at h2
    split at h2 <;> cases h2
  have ha:vs[i]? =some v:=by
   unfold start at h2
   rw [fb (by simpa using hi),aj]at h2
   cases e:vs[i]? with
   | none=>rw [e]at h2; cases h2
   | some a=>rw [e]at h2; cases h2; rfl
  obtain⟨u,hu,rv⟩:=r.get ha
  have hp:ps[i]? =some y:=by
   rw [<-S.pre,List.getElem?_take_of_lt (by omega)]; exact h1
  have ndP:ps.Nodup:=by rw [<-S.pre]; exact S.nd.sublist (k7 _ _)
  refine⟨u,rv, ?_⟩
  rcases S.par y (aT hp)with k | k
  ·exact .inl ⟨k,uv ndP hp hu k⟩
  ·obtain⟨c,e⟩:=yE (n:=s.heap.objs.size+1) k
   refine .inr ⟨.inl k,c,e, ?_⟩
   have q:=x.cell y c e
   rw [uy ndP hp hu (by show scope.names.lookup y≠_; rw [k]; decide)]at q
   exact q
 ·exact e0.dW.fresh (iN (x.above y c (b9 h)))
 ·unfold start
  show _=N.length
  rw [aw,ae,i7]
  omega
theorem xO{CX:gM}{P:av}{w:World}{K:aM}{mg:Str->Option Value}{base:Heap}{k:Nat}{f:Addr}{name qual:Str}{params:Arguments}{body:List Stmt}{scope:Scope}{dV kV doc pm cdv ct oc:Value}{an od:Option Addr}
  {osl:Array (Option Value)}{N ps:List Str}{sp:Sp}(lk:K.lookup f=some ⟨oc,od, .func (eI name qual params body scope dV kV doc pm an cdv ct),osl⟩)(hcd:nY K cdv qual=true)(S:bQ N ps scope)
  (len: ∀vs H Q E,sp vs H Q E->vs.length=ps.length)
  (hbody: ∀(A:bC) (outer:List Env) (s:ai) (H:Hp) (vs:List V) (Q:VK) (E:XK),fM k (A.deeper (lF qual scope s.heap.objs.size f cdv))->sp vs H Q E->
   ∃t,zv (nc CX P w K mg base N qual scope f cdv A outer s H E) body t/\t {nx:=fun _ H'=>Q .non H',rt:=Q} (start N vs) H):
  lN P w K mg base CX (k+1) f (eI name qual params body scope dV kV doc pm an cdv ct) ps sp:=by
 refine⟨len,fun A outer s H args us vs Q E hr e0 hb r hsp=> ?_⟩
 have hl:=len _ _ _ _ hsp
 have KX:K.In s.heap:=e0.mod.Cj.keeps fun b o e=>(e0.bs b o e).1
 have lim:s.heap.NoLimit:=e0.mod.nolimit.keeps fun b o e=>(e0.bs b o e).1
 have hkind: ∀y∈ps.zip us,scope.names.lookup y.1=some .local\/(scope.names.lookup y.1=some .cell/\((cellsFrom (s.heap.objs.size+1) scope.names []).lookup y.1).isSome=true):=fun⟨n,v⟩ hy=>by
  rcases S.par n (jM hy).1 with q | q
  ·exact .inl q
  ·exact .inr ⟨q,PySem.W.cellsFrom_some _ _ _ (.inl q)⟩
 refine codeAny_call_function hr.depth (KX _ _ lk) rfl S.co S.gen rfl (PySem.W.codeRec_of KX hcd) (hb _ _ _ _ ?_)
 refine wpAny_newFunctionEnv_cells S.kind hkind fun env he s1 x=> ?_
 subst he
 refine⟨lim.keeps x.toInCall.keep,codeAny_func ?_⟩
 obtain⟨t,ht,hq⟩:=hbody A outer s H vs Q E (hr.deeper _) hsp
 have I:Inv (nc CX P w K mg base N qual scope f cdv A outer s H E) [] (start N vs) H s1:=CH S hr.hd e0 hl r x
 refine cF (ht [] s1 (start N vs) H _ I hq) (fun fl s' hs=> ?_) fun e s' hs=>hs
 have fin: ∀{σ':St} {H':Hp} {v:V} {u:Value},Inv (nc CX P w K mg base N qual scope f cdv A outer s H E) [] σ' H' s'->RelV v u->Q v H'->CE outer P w H s Q u s':=
  fun{σ' H' v u} J rv q=>⟨v,H',J.os,J.bare,J.base,J.dW,rv,q⟩
 cases fl with
 | ret u=>
  obtain⟨v,σ',H',J,rv,q⟩:=hs
  exact fin J rv q
 | next=>
  obtain⟨σ',H',J,q⟩:=hs
  exact fin (v:=V.non) (u:=bf) J rfl q
 | brk=>
  obtain⟨_,_,_,q⟩:=hs
  exact fD q
 | cont=>
  obtain⟨_,_,_,q⟩:=hs
  exact fD q
end L2
namespace L2
open PySem PySem.Spec PyProof.Rows
section
variable {X:Cx}{x:Str}{p pos:Pos}{e:Expr}{es:List Expr}{t:TA}{id T:String}{r:List V->Hp->VK->Prop}
def MO(r:List V->Hp->VK->Prop)(t:TA):TE:=fun σ H Q=>t σ H fun vs H1=>r vs H1 Q
theorem il(hc:gz X (.builtin id) r)(hg:Gl X x)(hm:X.mg x=none)(hv:di x=some (.builtin id))(ha:PA X (e::es) t)(hn:x≠"__name__":=by decide)(hdb:(x==("__debug__":Str))=false:=by decide)
  (he:ax (e::es) X.env=(false,eval e X.env)::ax es X.env:=by rfl)(hpl:(e_ pos (ax es X.env)).any (·.1)=false:=by rfl):PE X (.Call (.Name x p) (e::es) [] pos) (MO r t):=by
 intro pins s σ H Q I h
 refine pQ (nF I hg hm hv ?_ hn hdb)
 exact PyProof.Rows.callWith_builtin1 (eQ (ha pos pins s σ H _ I h) fun us s1 ⟨vs,H1,I1,r1,q1⟩=>hc pins s1 σ H1 vs us Q I1 r1 q1) he hpl
theorem jy(hc:gz X (.type T) r)(hg:Gl X x)(hm:X.mg x=none)(hv:di x=some (.type T))(ha:PA X (e::es) t)(hn:x≠"__name__":=by decide)(hdb:(x==("__debug__":Str))=false:=by decide)
  (he:ax (e::es) X.env=(false,eval e X.env)::ax es X.env:=by rfl)(hpl:(e_ pos (ax es X.env)).any (·.1)=false:=by rfl):PE X (.Call (.Name x p) (e::es) [] pos) (MO r t):=by
 intro pins s σ H Q I h
 refine pQ (nF I hg hm hv ?_ hn hdb)
 exact gG (eQ (ha pos pins s σ H _ I h) fun us s1 ⟨vs,H1,I1,r1,q1⟩=>hc pins s1 σ H1 vs us Q I1 r1 q1) he hpl
end
end L2
namespace HT
open PySem PyProof.Rows
def lexLt:List Int->List Int->Bool
 | [], []=>false
 | [],_::_=>true
 | _::_, []=>false
 | x::xs,y::ys=>if x=y then lexLt xs ys else decide (x < y)
theorem qR(x y:Int)(xs ys:List Int):lexLt (x::xs) (y::ys)=if x=y then lexLt xs ys else decide (x < y):=rfl
theorem tX:lexLt [] []=false:=rfl
theorem rJ(y:Int)(ys:List Int):lexLt [] (y::ys)=true:=rfl
theorem rj(x:Int)(xs:List Int):lexLt (x::xs) []=false:=rfl
theorem Dp(A:bC)(s:ai)(a:Int)(t:Tok)(c:Int)(u:Tok): ∃e,SeqAt.EqAt A s (.int a t) (.int c u) e/\(e=true↔a=c):=
 ⟨(a==c),SeqAt.EqAt.int_int a t c u,by simp⟩
theorem DB(A:bC)(s:ai)(a:Int)(t:Tok)(c:Int)(u:Tok)(prog:av)(w:World)(E:Value->ai->Prop)(Q:Value->ai->Prop)(h:Q (.bool (decide (a < c))) s):
  wpAny (model prog w) A (richCompare .Lt (.int a t) (.int c u)) Q E s:=
 (PyProof.Rows.lt_int h:wpAny (model prog w) A (cH .Lt (.int a t) (.int c u)) Q E s)
section
open PySem.SeqAt
open PySem.AutoSeq1 (wpAny_loadPart')
open PySem.MeetsSeq PySem.MeetsSeq2 PySem.MeetsSeq3
theorem tK(l b:Addr)(items items2:Array Value)(n n2:Nat)(dd dd2:Option Addr)(sl sl2:Array (Option Value))(ns ms:List Int)(hi:iQ items.toList ns)(hj:iQ items2.toList ms):
  Meets (cP.«tuple.__lt__» ⟨[.ref l, .ref b], []⟩)
   (fun _ R s=>s.heap.get? l=some {cls:= .type "tuple",dict:=dd,data:= .seq items n,slots:=sl}/\s.heap.get? b=some {cls:= .type "tuple",dict:=dd2,data:= .seq items2 n2,slots:=sl2}/\
    R (.ok (.ret (.bool (lexLt ns ms)))) s):=
 .of_wp fun prog w A R s h=>by
  obtain⟨hp,g,d,tk,os⟩:=s; obtain⟨hl,hb,h⟩:=h
  have f2:=hG
  have z1:items.size=ns.length:=by rw [<-hi.length]; simp
  have z2:items2.size=ms.length:=by rw [<-hj.length]; simp
  wp_walk using wpAny_loadPart' hl,wpAny_loadPart' hb,lP _ (fun rest b s'=>b.1=none/\s'=⟨hp,g,d,tk,os⟩/\ ∃(vs ws:List Value) (ns' ms':List Int),rest=vs.zip ws/\
   iQ vs ns'/\iQ ws ms'/\ns'.length+items2.size=ms'.length+items.size/\R (.ok (.ret (.bool (lexLt ns' ms')))) ⟨hp,g,d,tk,os⟩) _
  case turn=>
   rintro⟨y,x⟩ rest b s' ⟨hb',rfl,vs,ws,ns',ms',hz,hvi,hwi,hlen,hR⟩
   cases hvi with
   | nil=>rw [List.zip_nil_left]at hz; cases hz
   | cons a t hvi'=>
    cases hwi with
    | nil=>rw [List.zip_nil_right]at hz; cases hz
    | cons c u hwi'=>
     rw [pR]at hz
     injection hz with hyx hrest
     injection hyx with hy hx
     subst hy hx
     rw [qR]at hR
     simp only [aH]at hlen
     obtain⟨e,he,hiff⟩:=Dp A.in1 ⟨hp,g,d,tk,os⟩ a t c u
     refine aa (he prog w _ _ ?_)
     cases e with
     | true=>
      rw [if_pos (hiff.mp rfl)]at hR
      wp_walk
      exact⟨rfl,rfl,_,_,_,_,hrest,hvi',hwi',by omega,hR⟩
     | false=>
      rw [if_neg (fun q=>absurd (hiff.mpr q) aC)]at hR
      have hri:=DB A.in1 ⟨hp,g,d,tk,os⟩ a t c u prog w
      wp_walk using hri
      exact⟨_,rfl,by simpa using hR⟩
  case fin=>
   rintro⟨b1,b2⟩ s' ⟨hb',rfl,vs,ws,ns',ms',hz,hvi,hwi,hlen,hR⟩
   simp only at hb'
   subst hb'
   have hv:lexLt ns' ms'=decide (items.size < items2.size):=by
    cases hvi with
    | nil=>
     cases hwi with
     | nil=>
      simp only [dC]at hlen
      rw [tX]
      exact(decide_eq_false (by omega)).symm
     | cons c u hw=>
      simp only [dC,aH]at hlen
      rw [rJ]
      exact(decide_eq_true (by omega)).symm
    | cons a t hv=>
     cases hwi with
     | nil=>
      simp only [dC,aH]at hlen
      rw [rj]
      exact(decide_eq_false (by omega)).symm
     | cons c u hw=>
      rw [pR]at hz
      cases hz
   rw [hv]at hR
   wp_walk
   exact⟨_,rfl,by simpa [Builtin.Tuple.tupleCompareSizes]using hR⟩
  case h=>
   exact⟨rfl,rfl,items.toList,items2.toList,ns,ms,rfl,hi,hj,by omega,h⟩
end
section
variable {prog:av}{w:World}{A:bC}{E:Value->ai->Prop}{s:ai}
theorem zb{l b:Addr}{items items2:Array Value}{ns ms:List Int}{Q:Value->ai->Prop}(hl:IsTup s.heap l items)(hb:IsTup s.heap b items2)(hi:iQ items.toList ns)(hj:iQ items2.toList ms)
  (hu:A.units < cLine)(h:Q (.bool (lexLt ns ms)) s):wpAny (model prog w) A (cH .Lt (.ref l) (.ref b)) Q E s:=by
 obtain⟨⟨cls,dd,data,sl⟩,ho,hc,n,hd⟩:=id hl
 obtain⟨⟨cls2,dd2,data2,sl2⟩,ho2,hc2,n2,hd2⟩:=id hb
 simp only at hc hd hc2 hd2
 subst hc hd hc2 hd2
 exact richCompare_meets_room (op:= .Lt) ⟨_,ho,rfl⟩ ⟨_,ho2,rfl⟩ Bw PySem.F.entry_tuple_lt (PySem.F.args_tuple_lt_2 _ _) (tK l b items items2 n n2 dd dd2 sl sl2 ns ms hi hj)
  ⟨ho,ho2,show fC (lexLt ns ms)≠Value.notImplemented/\Q (.bool (lexLt ns ms)) s from⟨(fun x=>nomatch x),h⟩⟩ hu
theorem Gv{t b:Addr}{vs ws:List Value}{Q:Value->ai->Prop}(ht:IsTup s.heap t vs.toArray)(hb:IsTup s.heap b ws.toArray)(hv:vs≠ [])
  (h1:ws= []->Q (.ref t) s)(h2:ws≠ []->Q (.ref s.heap.objs.size) {s with heap:=s.heap.push {cls:= .type "tuple",data:= .seq (vs ++ ws).toArray}})
  (hsz:vs.length+ws.length<=sizeLine):wpAny (model prog w) A (jt .Add (.ref t) (.ref b)) Q E s:=by
 obtain⟨⟨cls,dd,data,sl⟩,ho,hc,n,hd⟩:=id ht
 obtain⟨⟨cls2,dd2,data2,sl2⟩,ho2,hc2,n2,hd2⟩:=id hb
 simp only at hc hd hc2 hd2
 subst hc hd hc2 hd2
 have e:vs.toArray ++ ws.toArray=(vs ++ ws).toArray:=by simp
 by_cases hw:ws= []
 ·exact Ai ⟨_,ho,rfl⟩ ⟨_,ho2,rfl⟩ H_ seq_tuple_add Aj yY (yH _ _)
   (tuple_addW1 t b vs.toArray ws.toArray n n2 dd dd2 sl sl2 (by simpa using hv) (by simp [hw])) ⟨ho,ho2,h1 hw⟩
 ·refine Ai ⟨_,ho,rfl⟩ ⟨_,ho2,rfl⟩ H_ seq_tuple_add Aj yY (yH _ _)
   (tuple_addW2 t b vs.toArray ws.toArray n n2 dd dd2 sl sl2 (by simpa using hv) (by simpa using hw) (by rw [aB,aB]; exact hsz)) ⟨ho,ho2, ?_⟩
  rw [e]
  exact h2 hw
def g7(n d:Nat):Option Int->Nat
 | none=>d
 | some v=>if v < 0 then(v+(n:Int)).toNat else min v.toNat n
theorem Jh(n d:Nat)(hd:d<=n)(o:Option Int):g7 n d o<=n:=by
 cases o with
 | none=>exact hd
 | some v=>
  show(if v < 0 then(v+(n:Int)).toNat else min v.toNat n)<=n
  by_cases hv:v < 0
  ·rw [if_pos hv]; omega
  ·rw [if_neg hv]; exact Ia _ _
theorem Bu(v:Int)(n d:Nat):(if v < 0 then max (v+(n:Int)) 0 else min v (n:Int))=((g7 n d (some v):Nat):Int):=by
 show(if v < 0 then max (v+(n:Int)) 0 else min v (n:Int))=(((if v < 0 then(v+(n:Int)).toNat else min v.toNat n):Nat):Int)
 by_cases hv:v < 0
 ·simp only [if_pos hv]; omega
 ·simp only [if_neg hv]; omega
theorem zU(lo hi:Option Int)(n:Nat):wO lo hi 1 (n:Int)=(((g7 n 0 lo:Nat):Int),((g7 n n hi:Nat):Int)):=by
 have h1: ¬((1:Int) < 0):=by omega
 unfold wO
 simp only [h1,if_false]
 refine wC ?_ ?_
 ·cases lo with
  | none=>rfl
  | some v=>exact Bu v n 0
 ·cases hi with
  | none=>rfl
  | some v=>exact Bu v n n
theorem zN(i j:Nat):kP (i:Int) (j:Int) 1=j - i:=by
 unfold kP
 have h1:(1:Int) > 0:=by omega
 simp only [h1,if_true,Int.ediv_one]
 split <;> omega
theorem rG{v:Value}{o:Option Int}{Q:Option Int->ai->Prop}(p:pS v o)(h:Q o s):wpAny (model prog w) A (Builtin.Slice.slicePartIndex v) Q E s:=by
 cases p with
 | none=>exact slicePart_none h
 | int i t=>exact slicePart_int h
theorem kG{sl:Addr}{vl vu:Value}{lo hi:Option Int}{n:Nat}{Q:Int×Int×Nat->ai->Prop}(hs:s.heap.IsSliceOf sl vl vu .none)(pl:pS vl lo)(pu:pS vu hi)
  (h:Q (((g7 n 0 lo:Nat):Int),1,g7 n n hi - g7 n 0 lo) s):wpAny (model prog w) A (Builtin.Slice.sliceApplied (.ref sl) (pure (n:Int))) Q E s:=by
 obtain⟨os,hos,hcs,hds⟩:=id hs
 unfold Builtin.Slice.sliceApplied Builtin.Slice.sliceFields
 refine aa (aa (aU hos hds (x:=vl) rfl (aa (aU hos hds (x:=vu) rfl (aa (aU hos hds (x:= .none) rfl (ag ?_)))))))
 refine aa (slicePart_none ?_)
 show wpAny _ _ (if((1:Int)==0)=true then _ else _) _ _ s
 rw [if_neg (by decide)]
 refine aa (rG pl (aa (rG pu (aa (ag ?_)))))
 show wpAny _ _ (match wO lo hi 1 (n:Int)with | (lo,hi)=>pure (lo,(1:Int),kP lo hi 1)) _ _ s
 rw [zU lo hi n]
 show wpAny _ _ (pure (((g7 n 0 lo:Nat):Int),(1:Int),kP ((g7 n 0 lo:Nat):Int) ((g7 n n hi:Nat):Int) 1)) _ _ s
 rw [zN]
 exact ag h
theorem E1(xs:Array Value)(i k:Nat):((bE k).filterMap fun(m:Nat)=>xs[((i:Int)+(m:Int) * 1).toNat]?).toArray=((xs.toList.drop i).take k).toArray:=by
 have e:(fun(m:Nat)=>xs[((i:Int)+(m:Int) * 1).toNat]?)=fun m=>xs[i+m]? :=by
  funext m
  have:((i:Int)+(m:Int) * 1).toNat=i+m:=by omega
  rw [this]
 rw [e]
 have:=pick_run xs i k
 rw [List.filterMap_map]at this
 have e2:((fun x=>xs[x]?) ∘ fun x=>i+x)=fun m=>xs[i+m]? :=rfl
 rw [e2]at this
 rw [this]
theorem oJ{t sl:Addr}{items:Array Value}{vl vu:Value}{lo hi:Option Int}{Q:Value->ai->Prop}(ht:IsTup s.heap t items)(hs:s.heap.IsSliceOf sl vl vu .none)(pl:pS vl lo)(pu:pS vu hi)
  (hw: ¬(g7 items.size 0 lo=0/\g7 items.size items.size hi=items.size))
  (h:Q (.ref s.heap.objs.size) {s with heap:=s.heap.push {cls:= .type "tuple",data:= .seq ((items.toList.drop (g7 items.size 0 lo)).take (g7 items.size items.size hi - g7 items.size 0 lo)).toArray}})
  (hsz:items.size<=sizeLine):wpAny (model prog w) A (u0 (.ref t) (.ref sl)) Q E s:=by
 have htake:sizeOk (.seq ((items.toList.drop (g7 items.size 0 lo)).take (g7 items.size items.size hi - g7 items.size 0 lo)).toArray):=by
  show((items.toList.drop (g7 items.size 0 lo)).take (g7 items.size items.size hi - g7 items.size 0 lo)).toArray.size<=sizeLine
  rw [aB,br,bL,ak]
  omega
 have hj:g7 items.size items.size hi<=items.size:=Jh _ _ (ay _) hi
 obtain⟨os,hos,hcs,hds⟩:=id hs
 have hTs:s.TypeIs (.ref sl) "slice":=⟨os,hos,hcs⟩
 unfold u0
 try with_reducible refine bq ?_
 first | refine aa (ag ?_) | skip
 refine aa (wpAny_sequenceKey ht.typeIs (by decide) ?_)
 refine aa (bM (name:=dP "__getitem__") ht.typeIs dF
  (bh dF ht.typeIs entry_tuple_getitem ?_ (args_tuple_getitem _ _)))
 show wpAny _ _ (wD (.ref t) >>=_) _ _ s
 refine aa (tupleItemsOf_ ht ?_)
 refine aa (fj hTs ?_)
 rw [if_pos (by decide)]
 refine aa (kG hs pl pu ?_)
 have hno: ¬((((g7 items.size 0 lo:Nat):Int)==0&&(1:Int)==1&&(g7 items.size items.size hi - g7 items.size 0 lo)==items.size)=true):=by
  intro q
  rw [bA,bA]at q
  have q1:((g7 items.size 0 lo:Nat):Int)=0:=ou q.1.1
  have q2:g7 items.size items.size hi - g7 items.size 0 lo=items.size:=ou q.2
  exact hw ⟨by omega,by omega⟩
 show wpAny _ _ (if(((g7 items.size 0 lo:Nat):Int)==0&&(1:Int)==1&&(g7 items.size items.size hi - g7 items.size 0 lo)==items.size)=true then _ else _) _ _ s
 rw [if_neg hno,E1]
 first
  | exact aa (m:=lG _) (a_ (ag ⟨_,rfl,ag h⟩) htake)
  | exact aa (m:=lG _) (a_ (aa (ag (ag ⟨_,rfl,ag h⟩))) htake)
  | exact aa (aa (m:=lG _) (a_ (ag (ag ⟨_,rfl,ag h⟩)) htake))
  | exact aa (aa (m:=lG _) (a_ (ag ⟨_,rfl,ag h⟩) htake))
end
end HT
namespace L2
open PySem PySem.Spec PyProof.Rows
abbrev TO:=St->Hp->(Option Int->Hp->Prop)->Prop
def PO(X:Cx)(e:Option Expr)(t:TO):Prop:=
 ∀(pins:List (Addr×Obj)) (s:ai) (σ:St) (H:Hp) (Q:Option Int->Hp->Prop),Inv X pins σ H s->t σ H Q->
  wpAny (model X.prog X.w) X.A (evalPart e X.env) (fun u s'=> ∃o H',Inv X pins σ H' s'/\pS u o/\Q o H') X.xe s
def Gw:TO:=fun _ H Q=>Q none H
def Ko(t:TE):TO:=fun σ H Q=>t σ H fun x H1=> ∃i,x= .int i/\Q (some i) H1
theorem intsAre_of{ns:List Int}: ∀{us:List Value},Vals (ns.map V.int) us->iQ us ns:=by
 induction ns with
 | nil=>intro us r; rw [qp]at r; cases r; exact .nil
 | cons n ns ih=>
  intro us r
  rw [aY]at r
  cases r with
  | cons r1 r2=>
   obtain⟨t,e⟩:=r1
   subst e
   exact .cons n t (ih r2)
section
variable {X:Cx}{e:Expr}{te:TE}{lo hi:Option Expr}{tl th:TO}{pos p2:Pos}
theorem Gm:PO X none Gw:=by
 intro pins s σ H Q I h
 rw [evalPart_none]
 exact ag ⟨none,H,I, .none,h⟩
theorem Gn(h:PE X e te):PO X (some e) (Ko te):=by
 intro pins s σ H Q I hw
 rw [evalPart_some]
 refine eQ (h pins s σ H _ I hw) fun u s1 ⟨x,H1,I1,r1,q1⟩=> ?_
 obtain⟨i,rfl,q⟩:=q1
 obtain⟨t,rfl⟩:=r1
 exact⟨some i,H1,I1, .int i t,q⟩
def Mj(X:Cx)(r:V->Option Int->Option Int->Hp->VK->Prop):Prop:=
 ∀(pins:List (Addr×Obj)) (s:ai) (σ:St) (H:Hp) (x:V) (v vl vu:Value) (lo hi:Option Int) (sl:Addr) (Q:VK),Inv X pins σ H s->RelV x v->s.heap.IsSliceOf sl vl vu .none->pS vl lo->pS vu hi->r x lo hi H Q->
  ∃T id,typeLookup (.type T) "__getitem__"=pure (some (.builtin id))/\s.TypeIs v T/\wpAny (model X.prog X.w) X.A (u0 v (.ref sl)) (EP X pins σ Q) X.xe s
def Nt(r:V->Option Int->Option Int->Hp->VK->Prop)(te:TE)(tl th:TO):TE:=fun σ H Q=>te σ H fun x H1=>tl σ H1 fun l H2=>th σ H2 fun u H3=>r x l u H3 Q
theorem Ei{r:V->Option Int->Option Int->Hp->VK->Prop}(hr:Mj X r)(he:PE X e te)(hl:PO X lo tl)(hu:PO X hi th):PE X (.Subscript e (.Slice lo hi none p2) pos) (Nt r te tl th):=by
 intro pins s σ H Q I h
 refine Subscript_ (eQ (he pins s σ H _ I h) fun v s1 ⟨x,H1,I1,r1,q1⟩=> ?_)
 refine wpAny_Slice (eQ (hl pins s1 σ H1 _ I1 q1) fun vl s2 ⟨l,H2,I2,pl,q2⟩=>eQ (hu pins s2 σ H2 _ I2 q2) fun vu s3 ⟨u,H3,I3,pu,q3⟩=> ?_)
 rw [evalPart_none]
 refine ag ?_
 have I4:Inv X pins σ H3 {s3 with heap:=s3.heap.push {cls:= .type "slice",data:= .fields #[vl,vu, .none]}}:=I3.kept (t':=s3.toks) fun b ob q=>af _ q
 obtain⟨T,id,hT,ht,hg⟩:=hr pins {s3 with heap:=s3.heap.push {cls:= .type "slice",data:= .fields #[vl,vu, .none]}} σ H3 x v vl vu l u s3.heap.objs.size Q I4 r1 (Heap.IsSliceOf.new ..) pl pu q3
 show wpAny (model X.prog X.w) X.A (subscriptTail e (.Slice lo hi none p2) v (.ref s3.heap.objs.size)) (EP X pins σ Q) X.xe {s3 with heap:=s3.heap.push {cls:= .type "slice",data:= .fields #[vl,vu, .none]}}
 exact tail_any (ops:= [.ref s3.heap.objs.size,v]) ht hT hg (by with_unfolding_all rfl)
def zt(xs:List V)(lo hi:Option Int):List V:=(xs.drop (HT.g7 xs.length 0 lo)).take (HT.g7 xs.length xs.length hi - HT.g7 xs.length 0 lo)
theorem yk(xs:List V)(lo hi:Option Int):(zt xs lo hi).length<=xs.length:=by
 unfold zt
 rw [br,bL]
 omega
def LY(K:aM):V->Option Int->Option Int->Hp->VK->Prop:=fun x lo hi H Q=> ∃a xs,x= .ref a/\i5 K H a xs/\
 ¬(HT.g7 xs.length 0 lo=0/\HT.g7 xs.length xs.length hi=xs.length)/\ ∀p,H p=none->Q (.ref p) (upd H p (.tup (zt xs lo hi)))
theorem JM:Mj X (LY X.K):=by
 intro pins s σ H x v vl vu lo hi sl Q I rx hs pl pu h
 obtain⟨a,xs,rfl,hx,hw,q⟩:=h
 cases rx
 obtain⟨its,r,ht,hz⟩:=I.tuple hx
 have hlen:its.toArray.size=xs.length:=by rw [aB]; exact r.length.symm
 refine⟨"tuple",_,dF.lookup,ht.typeIs, ?_⟩
 refine HT.oJ ht hs pl pu (by rw [hlen]; exact hw) ?_ (by rw [hlen]; exact hz)
 rw [hlen]
 refine⟨.ref s.heap.objs.size,_,I.laid (t':=s.toks) (o:= .tup (zt xs lo hi)) (fun b ob q=>af _ q) (ay _) ?_,rfl,q _ (I.dW.fresh (ay _))⟩
 exact⟨bj (yk xs lo hi) hz,_,(r.drop (HT.g7 xs.length 0 lo)).take (HT.g7 xs.length xs.length hi - HT.g7 xs.length 0 lo),IsTup.new _ _⟩
def KY(K:aM):R2:=fun x y H Q=> ∃a b xs ys,x= .ref a/\y= .ref b/\i5 K H a xs/\i5 K H b ys/\xs≠ []/\xs.length+ys.length<=sizeLine/\
 (ys= []->Q (.ref a) H)/\(ys≠ []-> ∀p,H p=none->Q (.ref p) (upd H p (.tup (xs ++ ys))))
theorem Vals.nil_iff{xs:List V}{us:List Value}(r:Vals xs us):us= []↔xs= []:=by
 cases r with
 | nil=>simp
 | cons _ _=>simp
theorem GO:ng X (jt .Add) (KY X.K):=by
 intro pins s σ H x y v u Q I rx ry h
 obtain⟨a,b,xs,ys,rfl,rfl,ha,hb,hx,hz,q1,q2⟩:=h
 cases rx
 cases ry
 obtain⟨its,r1,p1,_⟩:=I.tuple ha
 obtain⟨its2,r2,p2,_⟩:=I.tuple hb
 refine HT.Gv p1 p2 (fun z=>hx (r1.nil_iff.mp z)) (fun z=>⟨.ref a,H,I,rfl,q1 (r2.nil_iff.mp z)⟩) (fun z=> ?_) (by rw [<-r1.length, <-r2.length]; exact hz)
 refine⟨.ref s.heap.objs.size,_,I.laid (t':=s.toks) (o:= .tup (xs ++ ys)) (fun b ob q=>af _ q) (ay _) ?_,rfl,q2 (fun w=>z (r2.nil_iff.mpr w)) _ (I.dW.fresh (ay _))⟩
 exact⟨by rw [aw]; exact hz,_,r1.append r2,IsTup.new _ _⟩
end
end L2
namespace L2
open PySem PySem.Spec PyProof.Rows
def C5(n:Nat)(i:Int):Option Nat:=if 0<=i then(if i < n then some i.toNat else none)else if -(n:Int)<=i then some (i+n).toNat else none
def uw{α:Type}(xs:List α)(i:Int):Option α:=(C5 xs.length i).bind fun j=>xs[j]?
theorem oA{n:Nat}{i:Int}{j:Nat}(h:C5 n i=some j):seqIndex? i n=some j/\j < n/\ -(n:Int)<=i/\i < n:=by
 unfold C5 at h
 by_cases h0:0<=i
 ·rw [if_pos h0]at h
  by_cases h1:i < n
  ·rw [if_pos h1]at h
   have e:i.toNat=j:=aA h
   exact⟨by rw [seqIndex_of h0 h1,e],by omega,by omega,h1⟩
  ·rw [if_neg h1]at h; cases h
 ·rw [if_neg h0]at h
  by_cases h1: -(n:Int)<=i
  ·rw [if_pos h1]at h
   have e:(i+n).toNat=j:=aA h
   exact⟨by rw [seqIndex_neg (by omega) h1,e],by omega,h1,by omega⟩
  ·rw [if_neg h1]at h; cases h
theorem vi{α:Type}{xs:List α}{i:Int}{v:α}(h:uw xs i=some v): ∃j,seqIndex? i xs.length=some j/\xs[j]? =some v/\j < xs.length/\ -(xs.length:Int)<=i/\i < xs.length:=by
 unfold uw at h
 cases e:C5 xs.length i with
 | none=>rw [e]at h; cases h
 | some j=>
  rw [e]at h
  obtain⟨h1,h2,h3,h4⟩:=oA e
  exact⟨j,h1,h,h2,h3,h4⟩
theorem Hi{α:Type}{xs:List α}{j:Nat}{v:α}(h:xs[j]? =some v):uw xs (j:Int)=some v:=by
 have hj:j < xs.length:=(aD.mp h).1
 have e:C5 xs.length (j:Int)=some j:=by
  unfold C5
  rw [if_pos (by omega),if_pos (by omega)]; simp
 unfold uw; rw [e]; exact h
def oV(b:Expr):Prop:= ∀o i,subscripted b false o i=operate [o,i] (u0 o i)
def Lf(X:Cx)(r:R2):Prop:=
 ∀(value slice:Expr) (pins:List (Addr×Obj)) (s:ai) (σ:St) (H:Hp) (x y:V) (v u:Value) (Q:VK),Inv X pins σ H s->RelV x v->RelV y u->r x y H Q->
  subscripted slice false v u=operate [v,u] (u0 v u)->wpAny (model X.prog X.w) X.A (subscriptTail value slice v u) (EP X pins σ Q) X.xe s
def Nv(X:Cx)(id:String)(r:V->List V->Hp->VK->Prop):Prop:=
 ∀(pins:List (Addr×Obj)) (s:ai) (σ:St) (H:Hp) (x:V) (xs:List V) (v:Value) (us:List Value) (Q:VK),Inv X pins σ H s->RelV x v->Vals xs us->r x xs H Q->
  wpAny (model X.prog X.w) X.A (call (.builtin id) (v::us)) (EP X pins σ Q) X.xe s
section
variable {X:Cx}{a b:Expr}{ta tb:TE}{pos:Pos}
theorem EA{r:R2}(hr:Lf X r)(ha:PE X a ta)(hb:PE X b tb)(hs:oV b):PE X (.Subscript a b pos) (Ld r ta tb):=by
 intro pins s σ H Q I h
 exact Subscript_ (Jw ha hb I h fun v u s2 x y H2 I2 rx ry q=>hr a b pins s2 σ H2 x y v u Q I2 rx ry q (hs _ _))
def L5(K:aM):R2:=fun x y H Q=> ∃p xs i v,x= .ref p/\y= .int i/\lq K H p xs/\uw xs i=some v/\Q v H
def L0(K:aM):R2:=fun x y H Q=> ∃p xs i v,x= .ref p/\y= .int i/\i5 K H p xs/\uw xs i=some v/\Q v H
theorem HX:Lf X (L5 X.K):=by
 intro value slice pins s σ H x y v u Q I rx ry h hs
 obtain⟨p,xs,i,z,rfl,rfl,hq,he,q⟩:=h
 cases rx
 obtain⟨t,rfl⟩:=ry
 obtain⟨its,r,pl,hz⟩:=I.list hq
 obtain⟨j,h1,h2,h3,h4,h5⟩:=vi he
 obtain⟨w,ew,rw'⟩:=r.get h2
 have hl:=r.length
 have hn:=vR
 have fin:EP X pins σ Q w s:=⟨z,H,I,rw',q⟩
 by_cases h0:0<=i
 ·have hj:i.toNat=j:=by
   rw [seqIndex_of h0 h5]at h1
   exact aA h1
  exact item_listR pl.isList h0 (by omega) (by rw [hj]; simpa using ew) fin hs
 ·have hj:(i+(its.toArray.size:Int)).toNat=j:=by
   rw [seqIndex_neg (by omega) h4]at h1
   rw [aB, <-hl]
   exact aA h1
  exact Ak (x:=w) pl.isList.typeIs slot_list_getitem.lookup
   (wpAny_getItem_list_neg (Q:=fun r s'=>r=w/\EP X pins σ Q r s') pl.isList (by omega) (by rw [aB] <;> omega) (by omega) (by rw [hj]; simpa using ew) ⟨rfl,fin⟩) hs
theorem JF:Lf X (L0 X.K):=by
 intro value slice pins s σ H x y v u Q I rx ry h hs
 obtain⟨p,xs,i,z,rfl,rfl,hq,he,q⟩:=h
 cases rx
 obtain⟨t,rfl⟩:=ry
 obtain⟨its,r,pl,hz⟩:=I.tuple hq
 obtain⟨j,h1,h2,h3,h4,h5⟩:=vi he
 obtain⟨w,ew,rw'⟩:=r.get h2
 have hl:=r.length
 have hn:=vR
 have fin:EP X pins σ Q w s:=⟨z,H,I,rw',q⟩
 exact Ak (x:=w) pl.typeIs slot_tuple_getitem.lookup
  (getItem_tuple (j:=j) (Q:=fun r s'=>r=w/\EP X pins σ Q r s') pl (by omega) (by omega) (by rw [aB, <-hl]; exact h1) (by simpa using ew) ⟨rfl,fin⟩) hs
theorem zC(its:List Value)(n j:Nat)(u:Value):cJ (·.setIfInBounds j u) {cls:= .type "list",data:= .seq its.toArray n}={cls:= .type "list",data:= .seq (its.set j u).toArray n}:=by
 simp [cJ]
theorem Inv.lst{pins:List (Addr×Obj)}{σ:St}{H:Hp}{s:ai}{p:Addr}{xs:List V}(I:Inv X pins σ H s)(h:H p=some (.lst xs)):
  ∃(its:List Value) (n:Nat),Vals xs its/\s.heap.get? p=some {cls:= .type "list",data:= .seq its.toArray n}/\xs.length<=sizeLine:=by
 obtain⟨z,its,n,r,e⟩:=I.dW p _ h
 exact⟨its,n,r,e,z⟩
theorem Inv.lstUpd{pins:List (Addr×Obj)}{σ:St}{H:Hp}{s:ai}{p:Addr}{xs ys:List V}{its its':List Value}{n n':Nat}{f:Obj->Obj}(I:Inv X pins σ H s)(h:H p=some (.lst xs))
  (ho:s.heap.get? p=some {cls:= .type "list",data:= .seq its.toArray n})(hf:f {cls:= .type "list",data:= .seq its.toArray n}={cls:= .type "list",data:= .seq its'.toArray n'})(r:Vals ys its')(hz:ys.length<=sizeLine)(t:Nat):
  Inv X pins σ (upd H p (.lst ys)) {s with heap:=s.heap.update p f,toks:=t}:=by
 have e:(s.heap.update p f).get? p=some {cls:= .type "list",data:= .seq its'.toArray n'}:=by
  rw [cU f ho (by rw [hf] <;> rfl),hf]
 refine I.write (x:=p) (e:=p) (by rw [h]; trivial) (.inl rfl) (fun b u hb q=>(cS _ _ (ot hb)).trans q) ⟨_,e⟩ ?_
 exact⟨hz,its',n',r,e⟩
def KR:V->V->V->Hp->(Hp->Prop)->Prop:=fun o i v H Q=> ∃p xs k j,o= .ref p/\i= .int k/\H p=some (.lst xs)/\C5 xs.length k=some j/\Q (upd H p (.lst (xs.set j v)))
theorem set_list:Ks X KR:=by
 intro pins s σ H o i v ov iv u Q I ro ri rv h
 obtain⟨p,xs,k,j,rfl,rfl,hp,hj,q⟩:=h
 cases ro
 obtain⟨t,rfl⟩:=ri
 obtain⟨its,n,r,ho,hz⟩:=I.lst hp
 obtain⟨h1,h2,h3,h4⟩:=oA hj
 have hl:=r.length
 have hn:=vR
 have I':Inv X pins σ (upd H p (.lst (xs.set j v))) {s with heap:=s.heap.update p (cJ (·.setIfInBounds j u))}:=
  I.lstUpd hp ho (zC its n j u) (r.set rv j) (by rw [bo]; exact hz) s.toks
 by_cases h0:0<=k
 ·have hk:k.toNat=j:=by
   rw [seqIndex_of h0 h4]at h1
   exact aA h1
  exact PySem.W.ki_setAt ho h0 (by omega) (by rw [aB, <-hl]; exact h4) (by rw [hk]; exact⟨_,I',q⟩)
 ·have hk:(k+(its.toArray.size:Int)).toNat=j:=by
   rw [seqIndex_neg (by omega) h3]at h1
   rw [aB, <-hl]
   exact aA h1
  exact PySem.W.ki_setBack ho (by omega) (by rw [aB, <-hl]; exact h3) (by omega) (by rw [hk]; exact⟨_,I',q⟩)
theorem vP:gz X (.builtin "len") (fun xs H Q=> ∃p ys,xs= [.ref p]/\(lq X.K H p ys\/i5 X.K H p ys)/\Q (.int ys.length) H):=by
 intro pins s σ H xs us Q I r h
 obtain⟨p,ys,rfl,hq,q⟩:=h
 obtain⟨u,rfl,rx⟩:=vals1 r
 cases rx
 have hn:=vR
 rcases hq with hq | hq
 ·obtain⟨its,r',pl,hz⟩:=I.list hq
  have hlen:=r'.length
  exact Calls.call_len_list pl.isList (by simp only [aB] <;> omega) ⟨.int ys.length,H,I.tok _,⟨s.toks+1,by rw [aB,hlen]⟩,q⟩
 ·obtain⟨its,r',pl,hz⟩:=I.tuple hq
  have hlen:=r'.length
  exact len_tuple pl (by simp only [aB] <;> omega) ⟨.int ys.length,H,I.tok _,⟨s.toks+1,by rw [aB,hlen]⟩,q⟩
theorem vq:gz X (.type "list") (fun xs H Q=> ∃p ys,xs= [.ref p]/\(lq X.K H p ys\/i5 X.K H p ys)/\ ∀l,H l=none->Q (.ref l) (upd H l (.lst ys))):=by
 intro pins s σ H xs us Q I r h
 obtain⟨p,ys,rfl,hq,q⟩:=h
 obtain⟨u,rfl,rx⟩:=vals1 r
 cases rx
 have fin: ∀(its:List Value),Vals ys its->ys.length<=sizeLine-> ∀(h':Heap) (c':Nat),(∀b o',s.heap.get? b=some o'->h'.get? b=some o')->
   h'.get? s.heap.objs.size=some {cls:= .type "list",dict:=none,data:= .seq its.toArray c',slots:= #[]}->EP X pins σ Q (.ref s.heap.objs.size) {s with heap:=h'}:=fun its r' hz h' c' kp e=>
  ⟨.ref s.heap.objs.size,_,I.laid (t':=s.toks) kp (ay _) (show fI X.prog X.w _ h' _ (.lst ys)from⟨hz,its,c',r',e⟩),rfl,q _ (I.dW.fresh (ay _))⟩
 rcases hq with hq | hq
 ·obtain⟨its,r',pl,hz⟩:=I.list hq
  have hlen:=r'.length
  obtain⟨o,ho,hc,n,hd⟩:=pl.isList
  exact call_list_seq p (.inl rfl) ho hc hd (fun h' c' kp e=>fin its r' hz h' c' kp e) (by simp only [aB] <;> omega)
 ·obtain⟨its,r',pl,hz⟩:=I.tuple hq
  have hlen:=r'.length
  obtain⟨o,ho,hc,n,hd⟩:=pl
  exact call_list_seq p (.inr rfl) ho hc hd (fun h' c' kp e=>fin its r' hz h' c' kp e) (by simp only [aB] <;> omega)
theorem tN:gz X (.type "tuple") (fun xs H Q=> ∃p ys,xs= [.ref p]/\((lq X.K H p ys/\ ∀l,H l=none->Q (.ref l) (upd H l (.tup ys)))\/(i5 X.K H p ys/\Q (.ref p) H))):=by
 intro pins s σ H xs us Q I r h
 obtain⟨p,ys,rfl,h⟩:=h
 obtain⟨u,rfl,rx⟩:=vals1 r
 cases rx
 rcases h with⟨hq,q⟩ | ⟨hq,q⟩
 ·obtain⟨its,r',pl,hz⟩:=I.list hq
  have hlen:=r'.length
  refine call_tuple_list pl.isList (fun h' kp=> ?_) (by simp only [aB] <;> omega)
  have I1:Inv X pins σ H {s with heap:=h'}:=I.kept (t':=s.toks) kp
  have I2:Inv X pins σ (upd H h'.objs.size (.tup ys)) {s with heap:=h'.push {cls:= .type "tuple",data:= .seq its.toArray}}:=
   I1.laid (t':=s.toks) (fun b o e=>af _ e) (ay _) (show fI X.prog X.w _ _ _ (.tup ys)from⟨hz,its,r',IsTup.new _ _⟩)
  exact⟨.ref h'.objs.size,_,I2,rfl,q _ (I1.dW.fresh (ay _))⟩
 ·obtain⟨its,r',pl,hz⟩:=I.tuple hq
  exact call_tuple_same pl ⟨.ref p,H,I,rfl,q⟩
def MU(K:aM)(T:String)(x:V)(H:Hp):Prop:=match x with
 | .str _=>T="str"
 | .int _=>T="int"
 | .ref p=>(T="list"/\ ∃xs,lq K H p xs)\/(T="tuple"/\ ∃o,K.lookup p=some o/\o.cls= .type "tuple"/\o.dict=none)\/
   (T="dict"/\((∃kvs,H p=some (.dK kvs))\/ ∃kvs,H p=some (.dT kvs)))\/(T="set"/\ ∃S n,H p=some (.set S n))
 | _=>False
theorem Ju{pins:List (Addr×Obj)}{σ:St}{H:Hp}{s:ai}{T:String}{x:V}{v:Value}(I:Inv X pins σ H s)(r:RelV x v)(ty:MU X.K T x H):
  s.TypeIs v T/\ ∀a,v= .ref a-> ∃ob,s.heap.get? a=some ob/\ob.dict=none:=by
 cases x with
 | str z=>
  obtain⟨t,rfl⟩:=r
  cases (show T="str" from ty)
  exact⟨typeIs_str s z t,fun _ e=>nomatch e⟩
 | int i=>
  obtain⟨t,rfl⟩:=r
  cases (show T="int" from ty)
  exact⟨typeIs_int s i t,fun _ e=>nomatch e⟩
 | ref p=>
  cases r
  rcases ty with⟨rfl,xs,hq⟩ | ⟨rfl,o,hk,hc,hd⟩ | ⟨rfl,hk⟩ | ⟨rfl,S,n,hk⟩
  ·obtain⟨its,_,pl,_⟩:=I.list hq
   refine⟨pl.isList.typeIs,fun a e=> ?_⟩
   cases e
   obtain⟨o,n,e,c,hd,_⟩:=pl
   exact⟨o,e,hd⟩
  ·refine⟨⟨o,I.kIn p o hk,hc⟩,fun a e=> ?_⟩
   cases e
   exact⟨o,I.kIn _ o hk,hd⟩
  ·have z: ∃o,s.heap.get? p=some o/\o.ExactDict:=by
    rcases hk with⟨kvs,hk⟩ | ⟨kvs,hk⟩
    ·obtain⟨_,_,_,_,o,_,_,e,ex,_⟩:=I.dW p _ hk
     exact⟨o,e,ex⟩
    ·obtain⟨_,_,_,_,o,_,_,e,ex,_⟩:=I.dW p _ hk
     exact⟨o,e,ex⟩
   obtain⟨o,e,ex⟩:=z
   refine⟨⟨o,e,ex.1⟩,fun a e2=> ?_⟩
   cases e2
   exact⟨o,e,ex.2.1⟩
  ·obtain⟨o,_,_,_,e,ex,_⟩:=I.dW p _ hk
   refine⟨⟨o,e,ex.1⟩,fun a e2=> ?_⟩
   cases e2
   exact⟨o,e,ex.2.1⟩
 | _=>exact fD ty
def Ny(K:aM)(T:String)(r:V->List V->Hp->VK->Prop)(to:TE)(t:TA):TE:=fun σ H Q=>to σ H fun x H1=>MU K T x H1/\t σ H1 fun xs H2=>r x xs H2 Q
variable {o e:Expr}{es:List Expr}{to:TE}{t:TA}{name:Str}{apos cpos:Pos}{T id:String}{r:V->List V->Hp->VK->Prop}
theorem xh(pa:PlainAttrs T)(slot:Slot T name id)(hty:typeOf (.builtin id)=pure (.type "method_descriptor"))(hm:Nv X id r)(ho:PE X o to)(ha:PA X (e::es) t)
  (hbase:jk o name X.env (eval o X.env)=eval o X.env:=by rfl)
  (hfew:((e_ cpos (ax (e::es) X.env)).all (fun x=> !x.1)&&(backToKw cpos (CV [] X.env)).all (fun x=>x.1.isSome)
   &&decide ((e::es).length+([]:List Keyword).length+(if([]:List Keyword).isEmpty then 0 else 1) < 30))=true:=by rfl)
  (hline:(apos.endLine==cpos.line)=true:=by rfl)(hs:ax (e::es) X.env=(false,eval e X.env)::ax es X.env:=by rfl)(hplain:(e_ cpos (ax es X.env)).any (·.1)=false:=by rfl):
  PE X (.Call (.Attribute o name apos) (e::es) [] cpos) (Ny X.K T r to t):=by
 intro pins s σ H Q I h
 refine wpAny_Call_method_late hbase hfew hline rfl (eQ (ho pins s σ H _ I h) fun v s1 ⟨x,H1,I1,r1,ty,q1⟩=> ?_)
 obtain⟨h1,h2⟩:=Ju I1 r1 ty
 refine⟨T,id,pa,slot,hty,h1,h2, ?_⟩
 have hA:=ha cpos pins s1 σ H1 _ I1 q1
 rw [hs]at hA ⊢
 refine Calls.callWith_builtin (by show(false || (e_ cpos (ax es X.env)).any (·.1))=false; rw [hplain] <;> rfl) (Calls.evalArgs_plain ?_)
 exact eQ hA fun us s2 ⟨vs,H2,I2,r2,q2⟩=>hm pins s2 σ H2 x vs v us Q I2 r1 r2 q2
end
end L2
namespace L2
open PySem PySem.Spec PyProof.Rows
def Ll(X:Cx)(id:String)(r:V->List V->Hp->VK->Prop):Prop:=
 ∀(pins:List (Addr×Obj)) (s:ai) (σ:St) (H:Hp) (x:V) (xs:List V) (v:Value) (us:List Value) (Q:VK),Inv X pins σ H s->RelV x v->Vals xs us->r x xs H Q->
  wpAny (model X.prog X.w) X.A (call (.builtin id) (v::us)) (EP X pins σ Q) X.xe s
theorem Vals.one: ∀{x:V} {us:List Value},Vals [x] us-> ∃u,us= [u]/\RelV x u
 | _,_, .cons r .nil=>⟨_,rfl,r⟩
theorem Vals.eraseIdx: ∀{xs:List V} {us:List Value} (i:Nat),Vals xs us->Vals (xs.eraseIdx i) (us.eraseIdx i)
 | _,_,_, .nil=> .nil
 | _,_,0, .cons _ t=>t
 | _,_,i+1, .cons r t=> .cons r (Vals.eraseIdx i t)
theorem uP{α:Type}: ∀(l:List α) (i:Nat),(l.eraseIdx i).length<=l.length
 | [],_=>ay _
 | _::_,0=>tj _
 | _::r,i+1=>Nat.succ_le_succ (uP r i)
section
variable {X:Cx}{pins:List (Addr×Obj)}{σ:St}{H:Hp}{s:ai}{l b:Addr}{xs ys zs:List V}
theorem Inv.lset{its its':List Value}{n:Nat}{f:Array Value->Array Value}{t':Nat}(I:Inv X pins σ H s)(hH:H l=some (.lst xs))
  (e:s.heap.get? l=some {cls:= .type "list",data:= .seq its.toArray n})(hf:f its.toArray=its'.toArray)(hv:Vals ys its')(hz:ys.length<=sizeLine):
  Inv X pins σ (upd H l (.lst ys)) {s with heap:=s.heap.update l (cJ f),toks:=t'}:=by
 have q:=PySem.IsL.update e f
 rw [hf]at q
 refine I.write (x:=l) (e:=l) (by rw [hH]; exact trivial) (.inl rfl) (fun b' u hb hu=>(cS s.heap (cJ f) (ot hb)).trans hu) ⟨_,q⟩ ?_
 exact⟨hz,its',_,hv,q⟩
theorem Inv.lnew{its:List Value}{t':Nat}(I:Inv X pins σ H s)(hv:Vals ys its)(hz:ys.length<=sizeLine):
  Inv X pins σ (upd H s.heap.objs.size (.lst ys)) {s with heap:=s.heap.push {cls:= .type "list",data:= .seq its.toArray},toks:=t'}:=
 I.laid (fun _ _ q=>af _ q) (ay _) ⟨hz,its,0,hv,ar _ rfl⟩
theorem Inv.fresh(I:Inv X pins σ H s):H s.heap.objs.size=none:=I.dW.fresh (ay _)
theorem Inv.lstM(I:Inv X pins σ H s)(hH:H l=some (.lst xs)):xs.length<=sizeLine/\ ∃(its:List Value) (n:Nat),Vals xs its/\xs.length=its.length/\s.heap.get? l=some {cls:= .type "list",data:= .seq its.toArray n}:=by
 obtain⟨z,its,n,r,e⟩:=I.dW l _ hH
 exact⟨z,its,n,r,r.length,e⟩
theorem EY{n:Nat}(h:n<=sizeLine):hJ n=false:=by
 unfold hJ
 exact decide_eq_false (by omega)
end
section
variable {X:Cx}
def G_:V->List V->Hp->VK->Prop:=fun x vs H Q=> ∃l xs y,x= .ref l/\vs= [y]/\H l=some (.lst xs)/\xs.length < sizeLine/\Q .non (upd H l (.lst (xs ++ [y])))
theorem kM:Ll X "list.append" G_:=by
 intro pins s σ H x vs v us Q I rx rv h
 obtain⟨l,xs,y,rfl,rfl,hH,hz,q⟩:=h
 cases rx
 obtain⟨u,rfl,ru⟩:=rv.one
 obtain⟨z,its,n,r,hl,e⟩:=I.lstM hH
 refine call_meets F.slot_list_append ⟨_,e,rfl⟩ F.entry_list_append (F.args_list_append_2 _ _) (PySem.list_append l its.toArray n u (by rw [aB]; omega)) ⟨e, ?_⟩
 refine⟨.non,_,I.lset (its':=its ++ [u]) hH e (by simp) (r.append (.cons ru .nil)) ?_,rfl,q⟩
 rw [aw,eY]
 omega
def IW:V->List V->Hp->VK->Prop:=fun x vs H Q=> ∃l xs i k y,x= .ref l/\vs= [.int i]/\H l=some (.lst xs)/\ -(2 ^ 63)<=i/\i < 2 ^ 63/\seqIndex? i xs.length=some k/\xs[k]? =some y/\Q y (upd H l (.lst (xs.eraseIdx k)))
theorem xc:Ll X "list.pop" IW:=by
 intro pins s σ H x vs v us Q I rx rv h
 obtain⟨l,xs,i,k,y,rfl,rfl,hH,h1,h2,hk,hy,q⟩:=h
 cases rx
 obtain⟨u,rfl,ru⟩:=rv.one
 obtain⟨t,rfl⟩:=ru
 obtain⟨z,its,n,r,hl,e⟩:=I.lstM hH
 obtain⟨w,hw,rw'⟩:=r.get hy
 refine call_meets F.slot_list_pop ⟨_,e,rfl⟩ F.entry_list_pop (F.args_list_pop_2 _ _)
  (MeetsSeq.list_pop_at l its.toArray n i t k w (fitsIndex_both h1 h2) (by rw [aB, <-hl]; exact hk) (by rw [<-bz]; exact hw) (by rw [aB]; omega)) ⟨e, ?_⟩
 refine⟨y,_,I.lset (its':=its.eraseIdx k) hH e ?_ (r.eraseIdx k) ?_,rw',q⟩
 ·show its.toArray.eraseIdxIfInBounds k=(its.eraseIdx k).toArray
  rw [List.eraseIdxIfInBounds_toArray]
 ·have:=uP xs k
  omega
end
end L2
namespace Att
open PySem PySem.W PySem.Calls PyProof.Rows
theorem qh{P:Params}{h:Heap}: ∀(ns:List Int) (vs:List Value),WellAll P h vs (ns.map WData.int)->iQ vs ns:=by
 intro ns
 induction ns with
 | nil=>
  intro vs w
  rw [qp]at w
  cases w
  exact .nil
 | cons n ns ih=>
  intro vs w
  rw [aY]at w
  cases w with
  | cons a b=>
   cases a
   exact .cons _ _ (ih _ b)
theorem CJ{l:OpenLaw}{n:Nat}(hn:l.most=some n){P:Params}{h:Heap}{args:List WData}{vals:List Value}
  (hpre:l.row.toRowW.claim.pre args=true)(hwl:WellAll P h vals args):
  ∃a vs ns,vals= [aq a]/\args= [WData.list (ns.map WData.int)]/\h.get? a=some {cls:= .type "list",data:= .seq vs.toArray}/\iQ vs ns/\ns.length<=n:=by
 have hsh:WShape.hasAll [] args [.list .int]=true:=(pre_splitW hpre).1
 have hc:l.pre.holds [] {args:=args}=true:=(pre_splitW hpre).2
 obtain⟨d,r,rfl,h1,h2⟩:=hasAllW_cons hsh
 obtain rfl:=hasAllW_nil h2
 obtain⟨xs,rfl,h3⟩:=hasW_list h1
 obtain⟨ns,rfl⟩:=items_int h3
 have hlen:ns.length<=n:=by
  unfold OpenLaw.pre at hc
  have h4:(WTm.not (.lt (.lit (.int (n:Int))) (.len (.arg 0)))).holds [] {args:= [.list (ns.map .int)]}=true:=by
   have h4:=(holds_andW hc).1
   rw [hn]at h4
   exact h4
  have h5:=condW_of h4 (w_not (w_lt w_lit (w_len_list (w_arg rfl))))
  rw [ae]at h5
  refine sU fun q=> ?_
  have q':(n:Int) < ((ns.length:Nat):Int):=by omega
  first
   | (rw [decide_eq_true q']at h5; exact absurd h5 (by decide))
   | (simp at h5; omega)
 cases hwl with
 | cons w1 w2=>
  cases w2
  cases w1 with
  | list ho hall=>exact⟨_,_,ns,rfl,rfl,ho,qh ns _ hall,hlen⟩
theorem CA(l:OpenLaw)(args:List WData):l.row.toRowW.claim.post args (.bool true) args=true:=
 postW_of (r:=l.row.toRowW) (X:=(true==true))
  (show WShape.has [] (.bool true) .bool=true by first | rfl | decide | simp [WShape.has,WShape.arms,WShape.armsAll])
  (show(WTm.eq .res (.lit (.bool true))).value [] {args:=args,res:=some (.bool true),after:=args}=some (.bool (true==true))from w_eq_bool (w_res rfl) w_lit) rfl
theorem wV{l:OpenLaw}{n:Nat}{q:av}{loose:List Str}{XP:(Str->Option Value)->Heap->Prop}{YP:World->Heap->Prop}{d:DefRec}
  (hn:l.most=some n)(hdf:d.params.defaults= [])
  (call: ∀(w:World) (s₀ s₁:ai) (mg mb:Str->Option Value) (fa:Addr) (o:Obj) (pm cd doc:Value) (a:Addr) (vs:List Value) (ns:List Int),
   Ground q loose [] XP w s₀ mg mb s₁.heap->YP w s₁.heap->
   s₁.heap.get? fa=some o->o.data= .func (docDef d.name d.params d.body d.scope pm cd doc)->s₁.heap.CodeRec cd d.name->mg d.name=some (.ref fa)->
   s₁.heap.get? a=some {cls:= .type "list",data:= .seq vs.toArray}->iQ vs ns->ns.length<=n->s₁.gens= #[]->
   f9 (model l.prog w) qr (.call (.ref fa) ⟨[.ref a], []⟩) (fun r s'=>r= .ok (.ret (.bool true))/\OldK s₁.heap s'.heap/\s'.os=s₁.os/\ml s'.gens) s₁):
  WalkO q loose XP YP l.row.toRowW d [] (fun f vs=>PySem.call f vs):=by
 intro w s₀ s₁ mg mb G Y fa o pm cd doc dV kV ho hd hcd hD hmg hg args vals as hpre hlay hrd hwl hlo
 obtain rfl:dV= .none:=Dflts.none hD hdf
 obtain rfl:kV= .none:=Dflts.noKw hD
 obtain⟨a,vs,ns,rfl,rfl,hobj,hints,hlen⟩:=CJ hn hpre hwl
 refine enter_call (mr (call w s₀ s₁ mg mb fa o pm cd doc a vs ns G Y ho (fd_plain hd) hcd hmg hobj hints hlen hg) fun r s' hq=> ?_)
 obtain⟨rfl,h2,h3,h4⟩:=hq
 exact⟨.inl ⟨.bool true, .bool true, [],rfl,fun _=>rfl, .bool true,CA l _,fun _=>⟨fk,fun _ hm=>(nomatch hm)⟩⟩,h2,h3,h4⟩
end Att
namespace L2
open PySem PySem.Spec PyProof.Rows
theorem uO: ∀{vs:List Value} {ns:List Int},iQ vs ns->Vals (ns.map V.int) vs
 | _,_, .nil=> .nil
 | _,_, .cons n t h=> .cons ⟨t,rfl⟩ (uO h)
def JU(H:Hp):Prop:= ∀b,H b=none\/ ∃o xs,H b=some (.frz o (.lst xs))
theorem Ec{P:av}{w:World}{K:aM}{mg mb:Str->Option Value}{CX:gM}{k:Nat}{fa a:Addr}{fd:bg}{x:Str}{sp:Sp}{s₁:ai}{vs:List Value}{ns:List Int}
  (KX:K.In s₁.heap)(hns:s₁.heap.Ns cm mg)(hb:s₁.heap.Ns builtinsNs mb)(hbb: ∀x:Str,x≠"__name__"->mb x=di x)(hlim:s₁.heap.NoLimit)(hg:s₁.gens= #[])
  (ha:s₁.heap.get? a=some {cls:= .type "list",data:= .seq vs.toArray})(hi:iQ vs ns)(hl:ns.length<=sizeLine)(hr:fM k qr)
  (F: ∀base:Heap,K.In base->base.Ns cm mg->lN P w K mg base CX k fa fd [x] sp)(hbind: ∀(s:ai) (u:Value),BindsTo s fd ⟨[u], []⟩ [(x,u)])
  (hsp: ∀H:Hp,JU H->lq K H a (ns.map V.int)->sp [.ref a] H (fun v _=>v= .bl true) fun _ _ _=>False)
  (hCX: ∀H e s',CX [] H s₁ (fun _ _ _=>False) e s'->False):
  f9 (model P w) qr (.call (.ref fa) ⟨[.ref a], []⟩) (fun r s'=>r= .ok (.ret (.bool true))/\OldK s₁.heap s'.heap/\s'.os=s₁.os/\ml s'.gens) s₁:=by
 have rv:=uO hi
 have lenV:=hi.length
 have core: ∀H:Hp,JU H->lq K H a (ns.map V.int)->oq P w H s₁.heap->(∀b,H b≠none->b=a)->(H a≠none->K.lookup a=none)->
   f9 (model P w) qr (.call (.ref fa) ⟨[.ref a], []⟩) (fun r s'=>r= .ok (.ret (.bool true))/\OldK s₁.heap s'.heap/\s'.os=s₁.os/\ml s'.gens) s₁:=by
  intro H hO hS dW hA hK
  have base_of: ∀{b:Addr} {o:Obj},s₁.heap.get? b=some o->H b=none->(wq s₁.heap H).get? b=some o:=fun e n=>Eb e n
  have noA: ∀{b:Addr} {o:Obj} {es:Array dJ} {ep:Nat},s₁.heap.get? b=some o->o.data= .dict es ep->H b=none:=fun{b o es ep} e d=>by
   cases q:H b with
   | none=>rfl
   | some u=>
    have e':b=a:=hA b (by rw [q]; simp)
    subst e'
    rw [ha]at e; cases e
    have d':wF vs.toArray _=Data.dict es ep:=d
    cases d'
  have nsK: ∀{b:Addr} {m:Str->Option Value},s₁.heap.Ns b m->(wq s₁.heap H).Ns b m:=fun{b m} ⟨o,es,ep,e,d,r⟩=>⟨o,es,ep,base_of e (noA e d),d,r⟩
  have hKb:K.In (wq s₁.heap H):=fun b o e=>base_of (KX b o e) (by
   cases q:H b with
   | none=>rfl
   | some u=>
    have e':b=a:=hA b (by rw [q]; simp)
    subst e'
    rw [hK (by rw [q]; simp)]at e; cases e)
  have hM:Mod K mg (wq s₁.heap H):=⟨hKb,nsK hns,⟨mb,nsK hb,hbb⟩,let⟨mc,h1,h2⟩:=hlim; ⟨mc,nsK h1,h2⟩⟩
  have e0:zm P w K mg (wq s₁.heap H) qr [] s₁ H:=⟨rfl,hM,fun b o e=>GQ e,mq (Ck _ _),trivial,fun b hb=>absurd (show b∈([]:List Addr)from hb) (by simp),dW, .of_eq hg⟩
  refine mr ((F _ hKb (nsK hns)).run qr [] s₁ H ⟨[.ref a], []⟩ [.ref a] [.ref a] _ _ hr e0 (hbind s₁ (.ref a)) (.cons rfl .nil) (hsp H hO hS)) fun r s' h=> ?_
  cases r with
  | error e=>exact(hCX H e s' h).elim
  | ok fl=>
   cases fl with
   | next=>exact fD h
   | brk=>exact fD h
   | cont=>exact fD h
   | ret u=>
    obtain⟨v,H',os,bare,un,hok',r',q⟩:=h
    have q':v= .bl true:=q
    subst q'
    obtain rfl:u=fC true:=r'
    refine⟨rfl,OldK.of_keep fun b o e=> ?_,os,bare⟩
    cases q:H b with
    | none=>exact un.keep b o e q (by intro z; exact absurd (show b∈([]:List Addr)from z) (by simp)) (by simp)
    | some u=>
     rcases hO b with z | ⟨ob,xs,z⟩
     ·rw [q]at z; cases z
     ·have z2:=un.tO b ob _ z
      obtain⟨e1,_⟩:=dW b _ z
      obtain⟨e2,_⟩:=hok' b _ z2
      rw [e]at e1; cases e1
      exact e2
 cases hk:K.lookup a with
 | some o=>
  have e:=KX a o hk
  rw [ha]at e
  cases e
  refine core (fun _=>none) (fun _=> .inl rfl) (.inr ⟨_,vs.toArray,_,hk,rfl,rfl,rfl,by rw [aB,lenV]; exact hl,by simpa using rv⟩) (fun b u z=>by have z':(none:Option HO)=some u:=z; cases z') (fun b z=>absurd rfl z) fun z=>absurd rfl z
 | none=>
  refine core (fun b=>if b=a then some (.frz {cls:= .type "list",data:= .seq vs.toArray} (.lst (ns.map V.int)))else none) (fun b=> ?_) (.inl (.inr ⟨{cls:= .type "list",data:= .seq vs.toArray},if_pos rfl⟩)) (fun b u z=> ?_) (fun b z=> ?_) fun _=>hk
  ·by_cases hb:b=a
   ·exact .inr ⟨_,_,if_pos hb⟩
   ·exact .inl (if_neg hb)
  ·by_cases hb:b=a
   ·have z':=(if_pos hb).symm.trans z
    cases z'
    subst hb
    exact⟨ha,by rw [ae]; exact hl,vs,_,rv,ha⟩
   ·have z':=(if_neg hb).symm.trans z
    cases z'
  ·by_cases hb:b=a
   ·exact hb
   ·exact absurd (if_neg hb) z
end L2
namespace L2
open PySem PySem.Spec PyProof.Rows
theorem Gx{l:IJ}{n k:Nat}{q:av}{loose:List Str}{XP:(Str->Option Value)->Heap->Prop}{YP:World->Heap->Prop}{d:DefRec}{K:Params->aM}{CX:World->gM}{sp:World->Sp}{x:Str}
  (hn:l.most=some n)(hn2:n<=sizeLine)(hdf:d.params.defaults= [])(hr:fM k qr)
  (hY: ∀(w:World) (h:Heap),YP w h->(K w.params).In h)
  (F: ∀(w:World) (mg:Str->Option Value) (fa:Addr) (h:Heap),(K w.params).In h->h.Ns cm mg->mg d.name=some (.ref fa)->
   ∃fd:bg,(∀(s:ai) (u:Value),BindsTo s fd ⟨[u], []⟩ [(x,u)])/\
    ∀base:Heap,(K w.params).In base->base.Ns cm mg->lN l.prog w (K w.params) mg base (CX w) k fa fd [x] (sp w))
  (hsp: ∀(w:World) (H:Hp) (a:Addr) (ns:List Int),ns.length<=n->JU H->lq (K w.params) H a (ns.map V.int)->sp w [.ref a] H (fun v _=>v= .bl true) fun _ _ _=>False)
  (hCX: ∀(w:World) (H:Hp) (s:ai) (e:Value) (s':ai),CX w [] H s (fun _ _ _=>False) e s'->False):
  PySem.W.WalkO q loose XP YP l.row.toRowW d [] (fun f vs=>PySem.call f vs):=by
 refine Att.wV hn hdf fun w s₀ s₁ mg mb fa o pm cd doc a vs ns G Y ho hd hcd hmg hobj hints hlen hg=> ?_
 have KX:=hY w _ Y
 obtain⟨fd,hb,hF⟩:=F w mg fa _ KX G.T.g hmg
 exact Ec KX G.T.g G.T.b G.T.builtins G.T.nolimit hg hobj hints (bj hlen hn2) hr hF hb (fun H hO hS=>hsp w H a ns hlen hO hS) fun H e s'=>hCX w H s₁ e s'
end L2
namespace L2
open PySem PySem.Spec PyProof.Rows
def inClass(s:Stmt)(j:Nat):Stmt:=match s with
 | .ClassDef _ _ _ body _ _ _ _ _ _ _=>body.getD j (.Pass ⟨0,0,0,0⟩)
 | _=> .Pass ⟨0,0,0,0⟩
def iY(s:Stmt):Arguments:=match s with
 | .FunctionDef _ a _ _ _ _ _ _ _ _=>a
 | _=>{posonlyargs:= [],args:= [],vararg:=none,kwonlyargs:= [],kw_defaults:= [],kwarg:=none,defaults:= []}
def bt(s:Stmt):List Stmt:=match s with
 | .FunctionDef _ _ b _ _ _ _ _ _ _=>b
 | _=> []
def aL(s:Stmt):Scope:=match s with
 | .FunctionDef _ _ _ _ _ _ sc _ _ _=>sc
 | _=>{kind:= .function,names:= [],isGenerator:=false,isCoroutine:=false}
abbrev E0:XK:=fun _ _ _=>False
structure ji(K:aM)(x qual:Str)(st:Stmt)(f:Addr)(fd:bg):Prop where
 ex: ∃(oc:Value) (od:Option Addr) (kV doc pm:Value) (an:Option Addr) (cdv ct:Value) (osl:Array (Option Value)),
  fd=eI x qual (iY st) (bt st) (aL st) .none kV doc pm an cdv ct/\K.lookup f=some ⟨oc,od, .func fd,osl⟩/\nY K cdv qual=true
 kp:fS K (.ref f)=true
section
variable {P:av}{w:World}{K:aM}{mg:Str->Option Value}{base:Heap}
theorem ji.binds{x qual:Str}{st:Stmt}{f:Addr}{fd:bg}{ps:List Str}(F:ji K x qual st f fd)
  (h: ∀(kV doc pm:Value) (an:Option Addr) (cdv ct:Value) (us:List Value),us.length=ps.length->wB (eI x qual (iY st) (bt st) (aL st) .none kV doc pm an cdv ct) ⟨us, []⟩=pure (ps.zip us)):Binds K fd ps []:=by
 obtain⟨oc,od,kV,doc,pm,an,cdv,ct,osl,rfl,lk,hcd⟩:=F.ex
 exact .all (h kV doc pm an cdv ct)
theorem Ek{x qual:Str}{st:Stmt}{f:Addr}{oc:Value}{od an:Option Addr}{osl:Array (Option Value)}{kV doc pm cdv ct:Value}(l:K.lookup f=some ⟨oc,od, .func (eI x qual (iY st) (bt st) (aL st) .none kV doc pm an cdv ct),osl⟩)
  (c:nY K cdv qual=true)(k:fS K (.ref f)=true):ji K x qual st f (eI x qual (iY st) (bt st) (aL st) .none kV doc pm an cdv ct):=⟨⟨oc,od,kV,doc,pm,an,cdv,ct,osl,rfl,l,c⟩,k⟩
end
theorem rD{A B:Prop}(h:B):if false=true then A else B:=by
 rw [if_neg aC]
 exact h
theorem tZ{A B:Prop}(h:A):if true=true then A else B:=by
 rw [if_pos rfl]
 exact h
def bP(H H':Hp):Prop:= ∀b o,H b=some o->H' b=some o
theorem bP.refl(H:Hp):bP H H:=fun _ _ h=>h
theorem bP.trans{H H1 H2:Hp}(a:bP H H1)(b:bP H1 H2):bP H H2:=fun c o h=>b c o (a c o h)
theorem bP.free{H H':Hp}(e:bP H H'){l:Addr}(h:H' l=Option.none):H l=Option.none:=by
 cases q:H l with
 | none=>rfl
 | some o=>
  rw [e l o q]at h
  cases h
theorem bP.seq{K:aM}{H H':Hp}{a:Addr}{xs:List V}(e:bP H H')(h:lq K H a xs):lq K H' a xs:=by
 rcases h with(h | ⟨o,h⟩) | h
 ·exact .inl (.inl (e _ _ h))
 ·exact .inl (.inr ⟨o,e _ _ h⟩)
 ·exact .inr h
end L2
namespace Z
open PySem PySem.Spec PyProof.Rows L2
inductive D where
 | non | bl (b:Bool) | int (i:Int) | str (x:Str)
 | tup (xs:List D) | lst (xs:List D)
 | ins (C:Addr) (ns:List Str) (vs:List D)
 | exc (C:Addr)
 | dct (ks:List D) (ns:List Int)
abbrev St:=L2.St
abbrev MP:=Addr->Prop
abbrev Frag:=aM
def JW:MP:=fun _=>False
def LO(K:Frag)(a:Addr)(xs:List V):Prop:=
 ∃(o:Obj) (its:Array Value) (n:Nat),K.lookup a=some o/\o.cls= .type "list"/\o.dict=none/\o.data= .seq its n/\its.size<=sizeLine/\Vals xs its.toList
def FZ(K:Frag)(M:MP)(H:Hp)(a:Addr)(xs:List V):Prop:=(Rd H a (.lst xs)/\ ¬M a)\/LO K a xs
def Lr(a C:Addr):HO:= .ext fun h=> ∃o,h.get? a=some o/\o.cls= .ref C/\o.dict=none/\ ∃vs,o.data= .fields vs
mutual
def oR:D->Int
 | .int i=>hashInt i
 | .tup ds=>wG (fc (iK ds))
 | _=>0
def iK:List D->List Int
 | []=> []
 | d::ds=>oR d::iK ds
end
def mB:List (Int×Addr×Int)->List dJ->Prop
 | [], []=>True
 | x::xs,e::es=>(∃t,e=⟨x.1, .ref x.2.1, .int x.2.2 t⟩)/\mB xs es
 | _,_=>False
def jV(a:Addr)(xs:List (Int×Addr×Int)):HO:= .ext fun h=>(a==iA)=false/\ ∃o es ep,h.get? a=some o/\o.ExactDict/\o.data= .dict es ep/\mB xs es.toList
def oK(ks:List D)(bs:List Addr)(ns:List Int):List (Int×Addr×Int):=(iK ks).zip (bs.zip ns)
mutual
def Dn(K:Frag)(M:MP)(H:Hp):D->V->Prop
 | .non,v=>v= .non
 | .bl b,v=>v= .bl b
 | .int i,v=>v= .int i
 | .str x,v=>v= .str x
 | .tup ds,v=> ∃a xs,v= .ref a/\i5 K H a xs/\cE K M H ds xs
 | .lst ds,v=> ∃a xs,v= .ref a/\FZ K M H a xs/\cE K M H ds xs
 | .ins C ns ds,v=> ∃a dx fs,v= .ref a/\H a=some (.ins C dx fs)/\fs.map (·.1)=ns/\cE K M H ds (fs.map (·.2))
 | .exc C,v=> ∃a,v= .ref a/\H a=some (Lr a C)
 | .dct ks ns,v=> ∃a bs,v= .ref a/\H a=some (jV a (oK ks bs ns))/\bs.length=ks.length/\ns.length=ks.length/\cE K M H ks (bs.map V.ref)
def cE(K:Frag)(M:MP)(H:Hp):List D->List V->Prop
 | [],xs=>xs= []
 | d::ds,xs=> ∃v r,xs=v::r/\Dn K M H d v/\cE K M H ds r
end
def nJ(M:MP)(H H':Hp):Prop:= ∀b o,H b=some o->(∀xs,o= .lst xs-> ¬M b)->H' b=some o
section
variable {K:Frag}{M M':MP}{H H':Hp}{a:Addr}{xs:List V}
theorem oF(s:bP H H'):nJ M H H':=fun b o e _=>s b o e
theorem nJ.tup(k:nJ M H H')(h:i5 K H a xs):i5 K H' a xs:=by
 rcases h with(h | ⟨o,h⟩) | h
 ·exact .inl (.inl (k _ _ h (fun _ e=>nomatch e)))
 ·exact .inl (.inr ⟨o,k _ _ h (fun _ e=>nomatch e)⟩)
 ·exact .inr h
theorem nJ.sqm(k:nJ M H H')(h:FZ K M H a xs):FZ K M H' a xs:=by
 rcases h with⟨h | ⟨o,h⟩,m⟩ | h
 ·exact .inl ⟨.inl (k _ _ h fun _ _=>m),m⟩
 ·exact .inl ⟨.inr ⟨o,k _ _ h (fun _ e=>nomatch e)⟩,m⟩
 ·exact .inr h
theorem FZ.l(h:FZ K M H a xs):lq K H a xs:=by
 rcases h with⟨h,_⟩ | h
 ·exact .inl h
 ·exact .inr h
theorem FZ.re(hm: ∀a,M' a->M a\/H a=none)(h:FZ K M H a xs):FZ K M' H a xs:=by
 rcases h with⟨h,m⟩ | h
 ·refine .inl ⟨h,fun m'=> ?_⟩
  rcases hm _ m' with z | z
  ·exact m z
  ·rcases h with h | ⟨o,h⟩ <;> (rw [z]at h; cases h)
 ·exact .inr h
mutual
theorem Dn.keep(k:nJ M H H'): ∀{d:D} {v:V},Dn K M H d v->Dn K M H' d v
 | .non,_,x=>x
 | .bl _,_,x=>x
 | .int _,_,x=>x
 | .str _,_,x=>x
 | .tup ds,_,⟨a,xs,e,s,r⟩=>⟨a,xs,e,k.tup s,cE.keep k r⟩
 | .lst ds,_,⟨a,xs,e,s,r⟩=>⟨a,xs,e,k.sqm s,cE.keep k r⟩
 | .ins _ _ ds,_,⟨a,dx,fs,e,s,n,r⟩=>⟨a,dx,fs,e,k _ _ s (fun _ e=>nomatch e),n,cE.keep k r⟩
 | .exc _,_,⟨a,e,s⟩=>⟨a,e,k _ _ s (fun _ e=>nomatch e)⟩
 | .dct _ _,_,⟨a,bs,e,s,l1,l2,r⟩=>⟨a,bs,e,k _ _ s (fun _ e=>nomatch e),l1,l2,cE.keep k r⟩
theorem cE.keep(k:nJ M H H'): ∀{ds:List D} {vs:List V},cE K M H ds vs->cE K M H' ds vs
 | [],_,x=>x
 | _::_,_,⟨v,r,e,p,q⟩=>⟨v,r,e,Dn.keep k p,cE.keep k q⟩
end
mutual
theorem Dn.re(hm: ∀a,M' a->M a\/H a=none): ∀{d:D} {v:V},Dn K M H d v->Dn K M' H d v
 | .non,_,x=>x
 | .bl _,_,x=>x
 | .int _,_,x=>x
 | .str _,_,x=>x
 | .tup ds,_,⟨a,xs,e,s,r⟩=>⟨a,xs,e,s,cE.re hm r⟩
 | .lst ds,_,⟨a,xs,e,s,r⟩=>⟨a,xs,e,s.re hm,cE.re hm r⟩
 | .ins _ _ ds,_,⟨a,dx,fs,e,s,n,r⟩=>⟨a,dx,fs,e,s,n,cE.re hm r⟩
 | .exc _,_,⟨a,e,s⟩=>⟨a,e,s⟩
 | .dct _ _,_,⟨a,bs,e,s,l1,l2,r⟩=>⟨a,bs,e,s,l1,l2,cE.re hm r⟩
theorem cE.re(hm: ∀a,M' a->M a\/H a=none): ∀{ds:List D} {vs:List V},cE K M H ds vs->cE K M' H ds vs
 | [],_,x=>x
 | _::_,_,⟨v,r,e,p,q⟩=>⟨v,r,e,Dn.re hm p,cE.re hm q⟩
end
theorem Dn.same(s:bP H H'){d:D}{v:V}(h:Dn K M H d v):Dn K M H' d v:=h.keep (oF s)
theorem cE.same(s:bP H H'){d:List D}{v:List V}(h:cE K M H d v):cE K M H' d v:=h.keep (oF s)
theorem Dn.less(hm: ∀a,M' a->M a){d:D}{v:V}(h:Dn K M H d v):Dn K M' H d v:=h.re fun a z=> .inl (hm a z)
theorem cE.less(hm: ∀a,M' a->M a){d:List D}{v:List V}(h:cE K M H d v):cE K M' H d v:=h.re fun a z=> .inl (hm a z)
theorem Dn.noM{d:D}{v:V}(h:Dn K M H d v):Dn K JW H d v:=h.less fun _ z=>z.elim
theorem cE.len: ∀{ds:List D} {vs:List V},cE K M H ds vs->vs.length=ds.length
 | [],_,x=>by rw [show _= []from x]; rfl
 | _::_,_,⟨v,r,e,p,q⟩=>by rw [e,aH,aH,cE.len q]
theorem cE.app: ∀{ds es:List D} {vs us:List V},cE K M H ds vs->cE K M H es us->cE K M H (ds ++ es) (vs ++ us)
 | [],_,_,_,x,y=>by rw [show _= []from x]; exact y
 | _::_,_,_,_,⟨v,r,e,p,q⟩,y=>by rw [e]; exact⟨v,_,rfl,p,cE.app q y⟩
theorem cE.one{d:D}{v:V}(h:Dn K M H d v):cE K M H [d] [v]:=⟨v, [],rfl,h,rfl⟩
theorem cE.get: ∀{ds:List D} {vs:List V},cE K M H ds vs-> ∀{i:Nat} {d:D},ds[i]? =some d-> ∃v,vs[i]? =some v/\Dn K M H d v
 | [],_,_,_,_,e=>by simp at e
 | _::_,_,⟨v,r,e,p,q⟩,0,d,h=>by simp at h; subst h; rw [e]; exact⟨v,rfl,p⟩
 | _::_,_,⟨v,r,e,p,q⟩,i+1,d,h=>by
  obtain⟨u,h1,h2⟩:=cE.get q (i:=i) (by simpa using h)
  rw [e]; exact⟨u,by simpa using h1,h2⟩
theorem cE.getV: ∀{ds:List D} {vs:List V},cE K M H ds vs-> ∀{i:Nat} {v:V},vs[i]? =some v-> ∃d,ds[i]? =some d/\Dn K M H d v
 | [],_,x,i,v,e=>by rw [show _= []from x]at e; simp at e
 | d::_,_,⟨u,r,e,p,q⟩,0,v,h=>by rw [e]at h; simp at h; subst h; exact⟨d,rfl,p⟩
 | _::_,_,⟨u,r,e,p,q⟩,i+1,v,h=>by
  rw [e]at h
  obtain⟨d,h1,h2⟩:=cE.getV q (i:=i) (by simpa using h)
  exact⟨d,by simpa using h1,h2⟩
theorem cE.take: ∀{ds:List D} {vs:List V} (n:Nat),cE K M H ds vs->cE K M H (ds.take n) (vs.take n)
 | _,_,0,_=>rfl
 | [],_,_+1,x=>by rw [show _= []from x]; rfl
 | _::_,_,n+1,⟨v,r,e,p,q⟩=>by rw [e]; exact⟨v,_,rfl,p,cE.take n q⟩
theorem cE.drop: ∀{ds:List D} {vs:List V} (n:Nat),cE K M H ds vs->cE K M H (ds.drop n) (vs.drop n)
 | _,_,0,x=>x
 | [],_,_+1,x=>by rw [show _= []from x]; rfl
 | _::_,_,n+1,⟨v,r,e,p,q⟩=>by rw [e]; exact cE.drop n q
theorem cE.set{d:D}{v:V}(h:Dn K M H d v): ∀{ds:List D} {vs:List V} (n:Nat),cE K M H ds vs->cE K M H (ds.set n d) (vs.set n v)
 | [],_,_,x=>by rw [show _= []from x]; rfl
 | _::_,_,0,⟨u,r,e,p,q⟩=>by rw [e]; exact⟨v,_,rfl,h,q⟩
 | _::_,_,n+1,⟨u,r,e,p,q⟩=>by rw [e]; exact⟨u,_,rfl,p,cE.set h n q⟩
theorem cE.erase: ∀{ds:List D} {vs:List V} (n:Nat),cE K M H ds vs->cE K M H (ds.eraseIdx n) (vs.eraseIdx n)
 | [],_,_,x=>by rw [show _= []from x]; rfl
 | _::_,_,0,⟨u,r,e,p,q⟩=>by rw [e]; exact q
 | _::_,_,n+1,⟨u,r,e,p,q⟩=>by rw [e]; exact⟨u,_,rfl,p,cE.erase n q⟩
theorem cE.ints: ∀{ns:List Int} {vs:List V},cE K M H (ns.map .int) vs->vs=ns.map V.int
 | [],_,x=>x
 | n::ns,_,⟨u,r,e,p,q⟩=>by rw [e,cE.ints q,show u=V.int n from p]; rfl
theorem cE.of_ints: ∀(ns:List Int),cE K M H (ns.map .int) (ns.map V.int)
 | []=>rfl
 | n::ns=>⟨_,_,rfl,rfl,cE.of_ints ns⟩
end
def oC(K:Frag)(M:MP)(H:Hp):D->V->Prop
 | .lst ds,v=> ∃a xs,v= .ref a/\lq K H a xs/\cE K M H ds xs
 | d,v=>Dn K M H d v
section
variable {K:Frag}{M M':MP}{H H':Hp}
theorem Dn.t{d:D}{v:V}(h:Dn K M H d v):oC K M H d v:=by
 cases d with
 | lst ds=>obtain⟨a,xs,e,s,r⟩:=h; exact⟨a,xs,e,s.l,r⟩
 | _=>exact h
theorem oC.same{d:D}{v:V}(s:bP H H')(h:oC K M H d v):oC K M H' d v:=by
 cases d with
 | lst ds=>obtain⟨a,xs,e,q,r⟩:=h; exact⟨a,xs,e,s.seq q,r.same s⟩
 | _=>exact Dn.same s h
end
inductive Sl where
 | un | im (d:D) | mu (ds:List D)
abbrev eZ:=List Sl
def MM(M0:MP)(ρ:eZ)(α:Nat->Addr):MP:=fun a=>M0 a\/ ∃(i:Nat) (ds:List D),ρ[i]? =some (.mu ds)/\α i=a
structure Rep(K:Frag)(M0:MP)(H0:Hp)(γ:List (D×V))(α:Nat->Addr)(ρ:eZ)(σ:St)(H:Hp):Prop where
 same:bP H0 H
 old: ∀a,M0 a->H0 a≠none
 inj: ∀(i j:Nat) (ds es:List D),ρ[i]? =some (.mu ds)->ρ[j]? =some (.mu es)->α i=α j->i=j
 im: ∀(i:Nat) (d:D),ρ[i]? =some (.im d)-> ∃v,σ[i]? =some (some v)/\Dn K (MM M0 ρ α) H d v
 mu: ∀(i:Nat) (ds:List D),ρ[i]? =some (.mu ds)->H0 (α i)=none/\σ[i]? =some (some (.ref (α i)))/\ ∃xs,H (α i)=some (.lst xs)/\cE K (MM M0 ρ α) H ds xs
 gh: ∀p∈γ,Dn K (MM M0 ρ α) H p.1 p.2
 len:σ.length=ρ.length
section
variable {K:Frag}{M0:MP}{H0 H H' H1:Hp}{γ:List (D×V)}{α:Nat->Addr}{ρ:eZ}{σ:St}
theorem get_set{α:Type}{l:List α}{i j:Nat}{x y:α}(h:(l.set i x)[j]? =some y):(j=i/\y=x)\/(j≠i/\l[j]? =some y):=by
 rw [fm]at h
 split at h
 ·rename_i e
  split at h
  ·exact .inl ⟨e.symm,(aA h).symm⟩
  ·cases h
 ·rename_i e
  exact .inr ⟨fun z=>e z.symm,h⟩
theorem qK{α:Type}{l:List α}{i:Nat}{x:α}(h:i < l.length):(l.set i x)[i]? =some x:=by
 rw [fm,if_pos rfl,if_pos h]
theorem dR{α:Type}{l:List α}{i j:Nat}{x:α}(h:j≠i):(l.set i x)[j]? =l[j]? :=by
 rw [fm,if_neg fun z=>h z.symm]
theorem jx{i:Nat}{s:Sl}(hs: ∀ds,s≠ .mu ds){a:Addr}(h:MM M0 (ρ.set i s) α a):MM M0 ρ α a:=by
 rcases h with h | ⟨j,ds,e,z⟩
 ·exact .inl h
 ·rcases get_set e with⟨_,q⟩ | ⟨_,q⟩
  ·exact absurd q.symm (hs ds)
  ·exact .inr ⟨j,ds,q,z⟩
theorem Rep.next(r:Rep K M0 H0 γ α ρ σ H)(s:bP H H'):Rep K M0 H0 γ α ρ σ H':=
 ⟨r.same.trans s,r.old,r.inj,fun i d e=>let⟨v,h1,h2⟩:=r.im i d e; ⟨v,h1,h2.same s⟩,
  fun i ds e=>let⟨h1,h2,xs,h3,h4⟩:=r.mu i ds e; ⟨h1,h2,xs,s _ _ h3,h4.same s⟩,fun p hp=>(r.gh p hp).same s,r.len⟩
theorem Rep.ghost{d:D}{v:V}(r:Rep K M0 H0 γ α ρ σ H)(h:Dn K (MM M0 ρ α) H d v):Rep K M0 H0 ((d,v)::γ) α ρ σ H:=
 ⟨r.same,r.old,r.inj,r.im,r.mu,fun p hp=>(aO.mp hp).elim (fun z=>by rw [z]; exact h) fun z=>r.gh p z,r.len⟩
theorem Rep.unghost{p:D×V}(r:Rep K M0 H0 (p::γ) α ρ σ H):Rep K M0 H0 γ α ρ σ H:=
 ⟨r.same,r.old,r.inj,r.im,r.mu,fun q hq=>r.gh q (bY _ hq),r.len⟩
theorem Rep.set_im{i:Nat}{d:D}{v:V}(r:Rep K M0 H0 γ α ρ σ H)(hi:i < ρ.length)(h:Dn K (MM M0 ρ α) H d v):Rep K M0 H0 γ α (ρ.set i (.im d)) (σ.set i (some v)) H:=by
 have lm: ∀a,MM M0 (ρ.set i (.im d)) α a->MM M0 ρ α a:=fun a=>jx (by intro _ e; cases e)
 refine⟨r.same,r.old,fun j k ds es e1 e2=> ?_,fun j e q=> ?_,fun j ds q=> ?_,fun p hp=>(r.gh p hp).less lm,by rw [bo,bo,r.len]⟩
 ·rcases get_set e1 with⟨_,z⟩ | ⟨_,z1⟩
  ·cases z
  ·rcases get_set e2 with⟨_,z⟩ | ⟨_,z2⟩
   ·cases z
   ·exact r.inj j k ds es z1 z2
 ·rcases get_set q with⟨rfl,z⟩ | ⟨n,z⟩
  ·cases z
   exact⟨v,qK (by rw [r.len]; exact hi),h.less lm⟩
  ·obtain⟨u,h1,h2⟩:=r.im j e z
   exact⟨u,by rw [dR n]; exact h1,h2.less lm⟩
 ·rcases get_set q with⟨rfl,z⟩ | ⟨n,z⟩
  ·cases z
  ·obtain⟨h1,h2,xs,h3,h4⟩:=r.mu j ds z
   exact⟨h1,by rw [dR n]; exact h2,xs,h3,h4.less lm⟩
theorem Rep.forget{i:Nat}(r:Rep K M0 H0 γ α ρ σ H){ov:Option V}:Rep K M0 H0 γ α (ρ.set i .un) (σ.set i ov) H:=by
 have lm: ∀a,MM M0 (ρ.set i .un) α a->MM M0 ρ α a:=fun a=>jx (by intro _ e; cases e)
 refine⟨r.same,r.old,fun j k ds es e1 e2=> ?_,fun j e q=> ?_,fun j ds q=> ?_,fun p hp=>(r.gh p hp).less lm,by rw [bo,bo,r.len]⟩
 ·rcases get_set e1 with⟨_,z⟩ | ⟨_,z1⟩
  ·cases z
  ·rcases get_set e2 with⟨_,z⟩ | ⟨_,z2⟩
   ·cases z
   ·exact r.inj j k ds es z1 z2
 ·rcases get_set q with⟨rfl,z⟩ | ⟨n,z⟩
  ·cases z
  ·obtain⟨u,h1,h2⟩:=r.im j e z
   exact⟨u,by rw [dR n]; exact h1,h2.less lm⟩
 ·rcases get_set q with⟨rfl,z⟩ | ⟨n,z⟩
  ·cases z
  ·obtain⟨h1,h2,xs,h3,h4⟩:=r.mu j ds z
   exact⟨h1,by rw [dR n]; exact h2,xs,h3,h4.less lm⟩
theorem Rep.drop1{i:Nat}(r:Rep K M0 H0 γ α ρ σ H):Rep K M0 H0 γ α (ρ.set i .un) σ H:=by
 have h:=r.forget (i:=i) (ov:=(σ[i]?).join)
 have e:σ.set i (σ[i]?).join=σ:=by
  apply cA
  intro j
  rw [fm]
  split
  ·rename_i e
   subst e
   split
   ·rename_i h
    rw [ah h]
    rfl
   ·rename_i h
    rw [aI (sU h)]
  ·rfl
 rwa [e]at h
def E3(α:Nat->Addr)(i:Nat)(l:Addr):Nat->Addr:=fun j=>if j=i then l else α j
theorem mU{i:Nat}{l:Addr}:E3 α i l i=l:=if_pos rfl
theorem j8{i j:Nat}{l:Addr}(h:j≠i):E3 α i l j=α j:=if_neg h
theorem Rep.set_mu{i:Nat}{l:Addr}{xs:List V}{ds:List D}(r:Rep K M0 H0 γ α ρ σ H1)(hi:i < ρ.length)(hl:H1 l=none)(s:bP H1 H)(h:H l=some (.lst xs))
  (hd:cE K (fun a=>MM M0 ρ α a\/a=l) H ds xs):Rep K M0 H0 γ (E3 α i l) (ρ.set i (.mu ds)) (σ.set i (some (.ref l))) H:=by
 have lm: ∀a,MM M0 (ρ.set i (.mu ds)) (E3 α i l) a->MM M0 ρ α a\/a=l:=fun a z=>by
  rcases z with z | ⟨j,es,e,z⟩
  ·exact .inl (.inl z)
  ·rcases get_set e with⟨rfl,q⟩ | ⟨n,q⟩
   ·rw [mU]at z; exact .inr z.symm
   ·rw [j8 n]at z; exact .inl (.inr ⟨j,es,q,z⟩)
 have lm': ∀a,MM M0 (ρ.set i (.mu ds)) (E3 α i l) a->MM M0 ρ α a\/H1 a=none:=fun a z=>by
  rcases lm a z with z | rfl
  ·exact .inl z
  ·exact .inr hl
 refine⟨r.same.trans s,r.old,fun j k es fs e1 e2 ej=> ?_,fun j e q=> ?_,fun j es q=> ?_,fun p hp=>((r.gh p hp).re lm').same s,by rw [bo,bo,r.len]⟩
 ·have nl: ∀(k:Nat) (es:List D),ρ[k]? =some (Sl.mu es)->α k≠l:=fun k es z e=>by
   obtain⟨_,_,ys,h3,_⟩:=r.mu k es z
   rw [e,hl]at h3; cases h3
  rcases get_set e1 with⟨rfl,z⟩ | ⟨n1,z1⟩
  ·rcases get_set e2 with⟨rfl,z⟩ | ⟨n2,z2⟩
   ·rfl
   ·rw [mU,j8 n2]at ej; exact absurd ej.symm (nl k fs z2)
  ·rcases get_set e2 with⟨rfl,z⟩ | ⟨n2,z2⟩
   ·rw [mU,j8 n1]at ej; exact absurd ej (nl j es z1)
   ·rw [j8 n1,j8 n2]at ej; exact r.inj j k es fs z1 z2 ej
 ·rcases get_set q with⟨rfl,z⟩ | ⟨n,z⟩
  ·cases z
  ·obtain⟨u,h1,h2⟩:=r.im j e z
   exact⟨u,by rw [dR n]; exact h1,(h2.re lm').same s⟩
 ·rcases get_set q with⟨rfl,z⟩ | ⟨n,z⟩
  ·cases z
   exact⟨by rw [mU]; exact r.same.free hl,by rw [mU]; exact qK (by rw [r.len]; exact hi),xs,by rw [mU]; exact h,hd.less lm⟩
  ·obtain⟨h1,h2,ys,h3,h4⟩:=r.mu j es z
   exact⟨by rw [j8 n]; exact h1,by rw [dR n,j8 n]; exact h2,ys,by rw [j8 n]; exact s _ _ h3,(h4.re lm').same s⟩
theorem gU{l:Addr}{o:HO}(s:bP H0 H)(h:H0 l=none):bP H0 (upd H l o):=fun b u e=>by
 rw [cu (fL e h)]; exact s b u e
theorem bw{l:Addr}{o:HO}(h:H l=none):bP H (upd H l o):=gU (bP.refl H) h
theorem Rep.upd_mu{i:Nat}{ds es:List D}{ys:List V}(r:Rep K M0 H0 γ α ρ σ H)(hi:ρ[i]? =some (.mu ds))(hd:cE K (MM M0 ρ α) H es ys):Rep K M0 H0 γ α (ρ.set i (.mu es)) σ (upd H (α i) (.lst ys)):=by
 obtain⟨a1,a2,xs,a3,a4⟩:=r.mu i ds hi
 have hlt:i < ρ.length:=(aD.mp hi).1
 have me: ∀(j:Nat) (es':List D),(ρ.set i (Sl.mu es))[j]? =some (Sl.mu es')-> ∃fs,ρ[j]? =some (Sl.mu fs):=fun j es' e=>by
  rcases get_set e with⟨rfl,_⟩ | ⟨_,q⟩
  ·exact⟨ds,hi⟩
  ·exact⟨es',q⟩
 have lm: ∀a,MM M0 (ρ.set i (.mu es)) α a->MM M0 ρ α a:=fun a z=>by
  rcases z with z | ⟨j,es',e,z⟩
  ·exact .inl z
  ·obtain⟨fs,q⟩:=me j es' e
   exact .inr ⟨j,fs,q,z⟩
 have kp:nJ (MM M0 ρ α) H (upd H (α i) (.lst ys)):=fun b o e n=>by
  by_cases hb:b=α i
  ·subst hb
   rw [a3]at e; cases e
   exact absurd (.inr ⟨i,ds,hi,rfl⟩) (n _ rfl)
  ·rw [cu hb]; exact e
 refine⟨gU r.same a1,r.old,fun j k f1 f2 e1 e2=> ?_,fun j e q=> ?_,fun j f q=> ?_,fun p hp=>((r.gh p hp).keep kp).less lm,by rw [bo,r.len]⟩
 ·obtain⟨g1,z1⟩:=me j f1 e1
  obtain⟨g2,z2⟩:=me k f2 e2
  exact r.inj j k g1 g2 z1 z2
 ·rcases get_set q with⟨rfl,z⟩ | ⟨n,z⟩
  ·cases z
  ·obtain⟨u,h1,h2⟩:=r.im j e z
   exact⟨u,h1,(h2.keep kp).less lm⟩
 ·rcases get_set q with⟨rfl,z⟩ | ⟨n,z⟩
  ·cases z
   exact⟨a1,a2,ys,bG,(hd.keep kp).less lm⟩
  ·obtain⟨h1,h2,zs,h3,h4⟩:=r.mu j f z
   refine⟨h1,h2,zs, ?_,(h4.keep kp).less lm⟩
   rw [cu fun e=>n (r.inj j i f ds z hi e)]; exact h3
theorem Rep.freeze{i:Nat}{ds:List D}(r:Rep K M0 H0 γ α ρ σ H)(hi:ρ[i]? =some (.mu ds)):Rep K M0 H0 γ α (ρ.set i (.im (.lst ds))) σ H:=by
 obtain⟨a1,a2,xs,a3,a4⟩:=r.mu i ds hi
 have lm: ∀a,MM M0 (ρ.set i (.im (.lst ds))) α a->MM M0 ρ α a:=fun a=>jx (by intro _ e; cases e)
 refine⟨r.same,r.old,fun j k d1 d2 e1 e2=> ?_,fun j e q=> ?_,fun j es q=> ?_,fun p hp=>(r.gh p hp).less lm,by rw [bo,r.len]⟩
 ·rcases get_set e1 with⟨_,z⟩ | ⟨_,z1⟩
  ·cases z
  ·rcases get_set e2 with⟨_,z⟩ | ⟨_,z2⟩
   ·cases z
   ·exact r.inj j k d1 d2 z1 z2
 ·rcases get_set q with⟨rfl,z⟩ | ⟨n,z⟩
  ·cases z
   refine⟨_,a2,α j,xs,rfl, .inl ⟨.inl a3,fun m=> ?_⟩,a4.less lm⟩
   rcases m with m | ⟨k,es,e,m⟩
   ·exact r.old _ m a1
   ·rcases get_set e with⟨_,z⟩ | ⟨n,z⟩
    ·cases z
    ·exact n (r.inj k j es ds z hi m)
  ·obtain⟨u,h1,h2⟩:=r.im j e z
   exact⟨u,h1,h2.less lm⟩
 ·rcases get_set q with⟨rfl,z⟩ | ⟨n,z⟩
  ·cases z
  ·obtain⟨h1,h2,ys,h3,h4⟩:=r.mu j es z
   exact⟨h1,h2,ys,h3,h4.less lm⟩
end
section
variable {X:Cx}{e:Expr}{es:List Expr}{st:Stmt}{sts:List Stmt}{σ:St}{H:Hp}
def tE(X:Cx)(e:Expr):TE:=fun σ H Q=> ∀(pins:List (Addr×Obj)) (s:ai),Inv X pins σ H s->wpAny (model X.prog X.w) X.A (eval e X.env) (EP X pins σ Q) X.xe s
def tT(X:Cx)(e:Expr):TT:=fun σ H Q=> ∀(pins:List (Addr×Obj)) (s:ai),Inv X pins σ H s->wpAny (model X.prog X.w) X.A (isTrue e X.env (eval e X.env)) (TP X pins σ Q) X.xe s
def tW(X:Cx)(e:Expr):TT:=fun σ H Q=> ∀(whole:Sem Value) (pins:List (Addr×Obj)) (s:ai),Inv X pins σ H s->wpAny (model X.prog X.w) X.A (isTrue e X.env whole) (TP X pins σ Q) X.xe s
def tA(X:Cx)(es:List Expr):TA:=fun σ H Q=> ∀(pos:Pos) (pins:List (Addr×Obj)) (s:ai),Inv X pins σ H s->wpAny (model X.prog X.w) X.A (spliced (e_ pos (ax es X.env))) (AP X pins σ Q) X.xe s
def tS(X:Cx)(st:Stmt):TS:=fun D σ H=> ∀(pins:List (Addr×Obj)) (s:ai),Inv X pins σ H s->wpAny (model X.prog X.w) X.A (exec st X.env) (SP X pins D) X.xe s
def nE(X:Cx)(st:List Stmt):TS:=fun D σ H=> ∀(pins:List (Addr×Obj)) (s:ai),Inv X pins σ H s->wpAny (model X.prog X.w) X.A (execs st X.env) (SP X pins D) X.xe s
theorem g8:PE X e (tE X e):=fun pins s σ H Q I h=>h pins s I
theorem Fw:PT X e (tT X e):=fun pins s σ H Q I h=>h pins s I
theorem LP:PW X e (tW X e):=fun w pins s σ H Q I h=>h w pins s I
theorem vh:PA X es (tA X es):=fun p pins s σ H Q I h=>h p pins s I
theorem uM:PS X st (tS X st):=fun pins s σ H Q I h=>h pins s I
theorem gI:zv X sts (nE X sts):=fun pins s σ H Q I h=>h pins s I
theorem _root_.L2.PE.to{t:TE}{Q:VK}(h:PE X e t)(q:t σ H Q):tE X e σ H Q:=fun pins s I=>h pins s σ H Q I q
theorem _root_.L2.PT.to{t:TT}{Q:Bool->Hp->Prop}(h:PT X e t)(q:t σ H Q):tT X e σ H Q:=fun pins s I=>h pins s σ H Q I q
theorem _root_.L2.PW.to{t:TT}{Q:Bool->Hp->Prop}(h:PW X e t)(q:t σ H Q):tW X e σ H Q:=fun w pins s I=>h w pins s σ H Q I q
theorem _root_.L2.PA.to{t:TA}{Q:List V->Hp->Prop}(h:PA X es t)(q:t σ H Q):tA X es σ H Q:=fun p pins s I=>h p pins s σ H Q I q
theorem _root_.L2.PS.to{t:TS}{D:Ends}(h:PS X st t)(q:t D σ H):tS X st D σ H:=fun pins s I=>h pins s σ H D I q
theorem _root_.L2.zv.to{t:TS}{D:Ends}(h:zv X sts t)(q:t D σ H):nE X sts D σ H:=fun pins s I=>h pins s σ H D I q
end
def az(X:Cx)(ρ:eZ)(e:Expr)(d:D):Prop:= ∀(M0:MP) (H0:Hp) (γ:List (D×V)) (α:Nat->Addr) (σ:St) (H:Hp) (Q:VK),Rep X.K M0 H0 γ α ρ σ H->
 (∀v H',bP H H'->Dn X.K (MM M0 ρ α) H' d v->Q v H')->tE X e σ H Q
def kT(X:Cx)(ρ:eZ)(e:Expr)(d:D):Prop:= ∀(M0:MP) (H0:Hp) (γ:List (D×V)) (α:Nat->Addr) (σ:St) (H:Hp) (Q:VK),Rep X.K M0 H0 γ α ρ σ H->
 (∀v H',bP H H'->oC X.K (MM M0 ρ α) H' d v->Q v H')->tE X e σ H Q
def ef(X:Cx)(ρ:eZ)(e:Expr)(ds:List D):Prop:= ∀(M0:MP) (H0:Hp) (γ:List (D×V)) (α:Nat->Addr) (σ:St) (H:Hp) (Q:VK),Rep X.K M0 H0 γ α ρ σ H->
 (∀l xs H1 H',bP H H1->H1 l=none->bP H1 H'->H' l=some (.lst xs)->cE X.K (fun a=>MM M0 ρ α a\/a=l) H' ds xs->Q (.ref l) H')->tE X e σ H Q
def c8(X:Cx)(ρ:eZ)(e:Expr)(b:Bool):Prop:= ∀(M0:MP) (H0:Hp) (γ:List (D×V)) (α:Nat->Addr) (σ:St) (H:Hp) (Q:Bool->Hp->Prop),Rep X.K M0 H0 γ α ρ σ H->
 (∀H',bP H H'->Q b H')->tT X e σ H Q
def i6(X:Cx)(ρ:eZ)(e:Expr)(b:Bool):Prop:= ∀(M0:MP) (H0:Hp) (γ:List (D×V)) (α:Nat->Addr) (σ:St) (H:Hp) (Q:Bool->Hp->Prop),Rep X.K M0 H0 γ α ρ σ H->
 (∀H',bP H H'->Q b H')->tW X e σ H Q
def bp(X:Cx)(ρ:eZ)(es:List Expr)(ds:List D):Prop:= ∀(M0:MP) (H0:Hp) (γ:List (D×V)) (α:Nat->Addr) (σ:St) (H:Hp) (Q:List V->Hp->Prop),Rep X.K M0 H0 γ α ρ σ H->
 (∀vs H',bP H H'->cE X.K (MM M0 ρ α) H' ds vs->Q vs H')->tA X es σ H Q
def xB(K:Frag)(M:MP)(H:Hp):List D->List V->Prop
 | [],xs=>xs= []
 | d::ds,xs=> ∃v r,xs=v::r/\oC K M H d v/\xB K M H ds r
def s9(X:Cx)(ρ:eZ)(es:List Expr)(ds:List D):Prop:= ∀(M0:MP) (H0:Hp) (γ:List (D×V)) (α:Nat->Addr) (σ:St) (H:Hp) (Q:List V->Hp->Prop),Rep X.K M0 H0 γ α ρ σ H->
 (∀vs H',bP H H'->xB X.K (MM M0 ρ α) H' ds vs->Q vs H')->tA X es σ H Q
section
variable {X:Cx}{ρ:eZ}{e a b:Expr}{es:List Expr}{d:D}{ds:List D}{pos p:Pos}
theorem az.r(h:az X ρ e d):kT X ρ e d:=fun M0 H0 γ α σ H Q R k=>h M0 H0 γ α σ H Q R fun v H' s x=>k v H' s x.t
theorem ef.toD(h:ef X ρ e ds):az X ρ e (.lst ds):=fun M0 H0 γ α σ H Q R k=>h M0 H0 γ α σ H Q R fun l xs H1 H' s n s' x y=>
 k _ H' (s.trans s') ⟨l,xs,rfl, .inl ⟨.inl x,fun m=>by
  rcases m with m | ⟨i,es,e,m⟩
  ·exact R.old _ m (R.same.free (s.free n))
  ·obtain⟨_,_,ys,h3,_⟩:=R.mu i es e
   rw [m]at h3
   have:=s _ _ h3
   rw [n]at this; cases this⟩,y.less fun a m=> .inl m⟩
theorem az.to{d':D}(h:az X ρ e d)(q:d=d'):az X ρ e d':=q▸h
theorem c8.to{c c':Bool}(h:c8 X ρ e c)(q:c=c'):c8 X ρ e c':=q▸h
theorem az.int{i:Int}{j}:az X ρ (.Constant (.int i) j pos) (.int i):=fun _ _ _ _ _ H _ _ k=>JQ.to (k _ H (bP.refl _) rfl)
theorem az.bl{i:Bool}{j}:az X ρ (.Constant (.bool i) j pos) (.bl i):=fun _ _ _ _ _ H _ _ k=>Kc.to (k _ H (bP.refl _) rfl)
theorem az.non{j}:az X ρ (.Constant .none j pos) .non:=fun _ _ _ _ _ H _ _ k=>JI.to (k _ H (bP.refl _) rfl)
theorem az.str{x:Str}{j}:az X ρ (.Constant (.str x) j pos) (.str x):=fun _ _ _ _ _ H _ _ k=>Jg.to (k _ H (bP.refl _) rfl)
theorem az.name{x:Str}(i:Nat)(hN:X.N[i]? =some x)(hv:wM X.env.scope x)(hρ:ρ[i]? =some (.im d))(hd:(x==("__debug__":Str))=false:=by decide)(hcd:(x==("__classdict__":Str))=false:=by decide):az X ρ (.Name x pos) d:=
 fun _ _ _ _ _ H _ R k=>(jF hN hv hd hcd).to (let⟨v,h1,h2⟩:=R.im i d hρ; ⟨v,h1,k v H (bP.refl _) h2⟩)
theorem kT.name{x:Str}(i:Nat)(hN:X.N[i]? =some x)(hv:wM X.env.scope x)(hρ:ρ[i]? =some (.mu ds))(hd:(x==("__debug__":Str))=false:=by decide)(hcd:(x==("__classdict__":Str))=false:=by decide):kT X ρ (.Name x pos) (.lst ds):=
 fun _ _ _ α _ H _ R k=>(jF hN hv hd hcd).to (let⟨_,h1,xs,h3,h4⟩:=R.mu i ds hρ; ⟨_,h1,k _ H (bP.refl _) ⟨α i,xs,rfl,lq.of h3,h4⟩⟩)
theorem az.glob{x:Str}{v:V}{u:Value}(hg:Gl X x)(hm:X.mg x=some u)(r:RelV v u)(hn: ∀M H,Dn X.K M H d v)(hd:(x==("__debug__":Str))=false:=by decide):az X ρ (.Name x pos) d:=
 fun _ _ _ _ _ H _ _ k=>(Gj hg hm r hd).to (k _ H (bP.refl _) (hn _ _))
theorem bp.nil:bp X ρ [] []:=fun _ _ _ _ _ H _ _ k=>gD.to (k _ H (bP.refl _) rfl)
theorem bp.cons(h:az X ρ e d)(t:bp X ρ es ds)(hs:ax (e::es) X.env=(false,eval e X.env)::ax es X.env:=by rfl):bp X ρ (e::es) (d::ds):=
 fun M0 H0 γ α σ H Q R k=>(dQ g8 vh hs).to (h M0 H0 γ α σ H _ R fun v H1 s1 d1=>t M0 H0 γ α σ H1 _ (R.next s1) fun vs H2 s2 d2=>k _ H2 (s1.trans s2) ⟨v,vs,rfl,d1.same s2,d2⟩)
theorem s9.nil:s9 X ρ [] []:=fun _ _ _ _ _ H _ _ k=>gD.to (k _ H (bP.refl _) rfl)
theorem s9.cons(h:kT X ρ e d)(t:s9 X ρ es ds)(hs:ax (e::es) X.env=(false,eval e X.env)::ax es X.env:=by rfl):s9 X ρ (e::es) (d::ds):=
 fun M0 H0 γ α σ H Q R k=>(dQ g8 vh hs).to (h M0 H0 γ α σ H _ R fun v H1 s1 d1=>t M0 H0 γ α σ H1 _ (R.next s1) fun vs H2 s2 d2=>k _ H2 (s1.trans s2) ⟨v,vs,rfl,d1.same s2,d2⟩)
theorem jq{n:Nat}(h:n<=1000000):n<=sizeLine:=bj h (by decide)
theorem az.tup{x1}(h:bp X ρ es ds)(hl:ds.length<=1000000:=by exact Bx rfl):az X ρ (.Tuple es x1 pos) (.tup ds):=
 fun M0 H0 γ α σ H Q R k=>(Fm vh).to (h M0 H0 γ α σ H _ R fun vs H1 s1 d1=>⟨by rw [d1.len]; exact jq hl,fun q hq=>
  k _ _ (s1.trans (bw hq)) ⟨q,vs,rfl,i5.of bG,d1.same (bw hq)⟩⟩)
theorem sh{K:Frag}{M:MP}{H:Hp}{l:Addr}{ds:List D}{vs:List V}(hl:H l=none)(h:cE K M H ds vs):cE K (fun a=>M a\/a=l) H ds vs:=
 h.re fun a m=>m.elim .inl fun z=> .inr (by rw [z]; exact hl)
theorem ef.lst(h:bp X ρ es ds)(hl:ds.length<=1000000:=by exact Bx rfl):ef X ρ (.List es pos) ds:=
 fun M0 H0 γ α σ H Q R k=>(IX vh).to (h M0 H0 γ α σ H _ R fun vs H1 s1 d1=>⟨by rw [d1.len]; exact jq hl,fun q hq=>
  k q vs H1 _ s1 hq (bw hq) bG ((sh hq d1).same (bw hq))⟩)
theorem az.op2{op:Operator}{r:R2}{da db:D}(ho:ng X (jt op) r)(ha:kT X ρ a da)(hb:kT X ρ b db)
  (hr: ∀(M:MP) (H:Hp) (x y:V) (Q:VK),oC X.K M H da x->oC X.K M H db y->(∀v H',bP H H'->Dn X.K M H' d v->Q v H')->r x y H Q):az X ρ (.BinOp a op b pos) d:=
 fun M0 H0 γ α σ H Q R k=>(Dj ho g8 g8).to (ha M0 H0 γ α σ H _ R fun v H1 s1 d1=>hb M0 H0 γ α σ H1 _ (R.next s1) fun u H2 s2 d2=>hr _ H2 v u Q (d1.same s2) d2 fun w' H3 s3 d3=>k w' H3 ((s1.trans s2).trans s3) d3)
theorem az.add{i j:Int}(ha:az X ρ a (.int i))(hb:az X ρ b (.int j)):az X ρ (.BinOp a .Add b pos) (.int (i+j)):=
 az.op2 JN ha.r hb.r fun M H x y Q dx dy k=>⟨i,j,dx,dy,k _ H (bP.refl _) rfl⟩
theorem az.sub{i j:Int}(ha:az X ρ a (.int i))(hb:az X ρ b (.int j)):az X ρ (.BinOp a .Sub b pos) (.int (i - j)):=
 az.op2 Jk ha.r hb.r fun M H x y Q dx dy k=>⟨i,j,dx,dy,k _ H (bP.refl _) rfl⟩
theorem az.mul{i j:Int}(ha:az X ρ a (.int i))(hb:az X ρ b (.int j))(hc:Gp i j):az X ρ (.BinOp a .Mult b pos) (.int (i * j)):=
 az.op2 Jy ha.r hb.r fun M H x y Q dx dy k=>⟨i,j,dx,dy,hc,k _ H (bP.refl _) rfl⟩
theorem az.mod{i j:Int}(ha:az X ρ a (.int i))(hb:az X ρ b (.int j))(hc:0 < j):az X ρ (.BinOp a .Mod b pos) (.int (i % j)):=
 az.op2 Jl ha.r hb.r fun M H x y Q dx dy k=>⟨i,j,dx,dy,hc,k _ H (bP.refl _) rfl⟩
theorem az.fdiv{i j:Int}(ha:az X ρ a (.int i))(hb:az X ρ b (.int j))(hc:Kt i j):az X ρ (.BinOp a .FloorDiv b pos) (.int (i / j)):=
 az.op2 Gq ha.r hb.r fun M H x y Q dx dy k=>⟨i,j,dx,dy,hc,k _ H (bP.refl _) rfl⟩
theorem az.cmp{op:CmpOp}{r:R2}{da db:D}{c:Bool}(ho:ng X (cH op) r)(ha:kT X ρ a da)(hb:kT X ρ b db)(hm:fE op b=false)
  (hr: ∀(M:MP) (H:Hp) (x y:V) (Q:VK),oC X.K M H da x->oC X.K M H db y->Q (.bl c) H->r x y H Q):az X ρ (.Compare a [op] [b] pos) (.bl c):=
 fun M0 H0 γ α σ H Q R k=>(Hc ho g8 g8 hm).to (ha M0 H0 γ α σ H _ R fun v H1 s1 d1=>hb M0 H0 γ α σ H1 _ (R.next s1) fun u H2 s2 d2=>hr _ H2 v u Q (d1.same s2) d2 (k _ H2 (s1.trans s2) rfl))
theorem c8.cmp{op:CmpOp}{r:R2}{da db:D}{c:Bool}(ho:ng X (cH op) r)(ha:kT X ρ a da)(hb:kT X ρ b db)(hm:fE op b=false)
  (hr: ∀(M:MP) (H:Hp) (x y:V) (Q:VK),oC X.K M H da x->oC X.K M H db y->Q (.bl c) H->r x y H Q):c8 X ρ (.Compare a [op] [b] pos) c:=
 fun M0 H0 γ α σ H Q R k=>(AH ho g8 g8 hm).to (ha M0 H0 γ α σ H _ R fun v H1 s1 d1=>hb M0 H0 γ α σ H1 _ (R.next s1) fun u H2 s2 d2=>hr _ H2 v u _ (d1.same s2) d2 ⟨c,rfl,k H2 (s1.trans s2)⟩)
inductive CI:CmpOp->(Int->Int->Bool)->Prop where
 | lt:CI .Lt fun i j=>decide (i < j)
 | le:CI .LtE fun i j=>decide (i<=j)
 | gt:CI .Gt fun i j=>decide (j < i)
 | ge:CI .GtE fun i j=>decide (j<=i)
 | eq:CI .Eq fun i j=>decide (i=j)
 | ne:CI .NotEq fun i j=> !decide (i=j)
theorem xW{i j:Int}:decide (V.int i=V.int j)=decide (i=j):=by
 by_cases h:i=j
 ·subst h; simp
 ·rw [decide_eq_false h,decide_eq_false fun q=>h (by injection q)]
theorem CI.op{op:CmpOp}{g:Int->Int->Bool}(h:CI op g):ng X (cH op) (Hj fun i j=> .bl (g i j)):=by
 cases h with
 | lt=>exact KS
 | le=>exact Km
 | gt=>exact Kp
 | ge=>exact KC
 | eq=>
  intro pins s σ H x y v u Q I rx ry ⟨i,j,ex,ey,q⟩
  subst ex; subst ey
  exact KH pins s σ H _ _ v u Q I rx ry ⟨rfl,by rw [xW]; exact q⟩
 | ne=>
  intro pins s σ H x y v u Q I rx ry ⟨i,j,ex,ey,q⟩
  subst ex; subst ey
  exact KJ pins s σ H _ _ v u Q I rx ry ⟨rfl,by rw [xW]; exact q⟩
theorem CI.mark{op:CmpOp}{g:Int->Int->Bool}(h:CI op g)(b:Expr):fE op b=false:=by cases h <;> exact vO b
theorem az.cI{op:CmpOp}{g:Int->Int->Bool}{i j:Int}(hc:CI op g)(ha:az X ρ a (.int i))(hb:az X ρ b (.int j)):az X ρ (.Compare a [op] [b] pos) (.bl (g i j)):=
 az.cmp hc.op ha.r hb.r (hc.mark b) fun M H x y Q dx dy k=>⟨i,j,dx,dy,k⟩
theorem c8.cI{op:CmpOp}{g:Int->Int->Bool}{i j:Int}(hc:CI op g)(ha:az X ρ a (.int i))(hb:az X ρ b (.int j)):c8 X ρ (.Compare a [op] [b] pos) (g i j):=
 c8.cmp hc.op ha.r hb.r (hc.mark b) fun M H x y Q dx dy k=>⟨i,j,dx,dy,k⟩
theorem az.chain{op op':CmpOp}{g g':Int->Int->Bool}{c:Expr}{i j k:Int}(h1:CI op g)(h2:CI op' g')(ha:az X ρ a (.int i))(hb:az X ρ b (.int j))(hc:az X ρ c (.int k))
  (hm:lastMarks [op,op'] [b,c]=false:=by with_unfolding_all rfl):az X ρ (.Compare a [op,op'] [b,c] pos) (.bl (g i j&&g' j k)):=
 fun M0 H0 γ α σ H Q R kk=>(EF h1.op h2.op g8 g8 g8 hm).to (ha M0 H0 γ α σ H _ R fun v H1 s1 d1=>hb M0 H0 γ α σ H1 _ (R.next s1) fun u H2 s2 d2=>⟨i,j,d1,d2,g i j,rfl,by
  cases e:g i j with
  | true=>exact tZ (hc M0 H0 γ α σ H2 _ ((R.next s1).next s2) fun z H3 s3 d3=>⟨j,k,d2,d3,by have:=kk (.bl (g' j k)) H3 ((s1.trans s2).trans s3); rw [e]at this; exact this rfl⟩)
  | false=>exact rD (by have:=kk (.bl false) H2 (s1.trans s2); rw [e]at this; exact this rfl)⟩)
theorem c8.chain{op op':CmpOp}{g g':Int->Int->Bool}{c:Expr}{i j k:Int}(h1:CI op g)(h2:CI op' g')(ha:az X ρ a (.int i))(hb:az X ρ b (.int j))(hc:az X ρ c (.int k))
  (hm:lastMarks [op,op'] [b,c]=false:=by with_unfolding_all rfl):c8 X ρ (.Compare a [op,op'] [b,c] pos) (g i j&&g' j k):=
 fun M0 H0 γ α σ H Q R kk=>(Er h1.op h2.op g8 g8 g8 hm).to (ha M0 H0 γ α σ H _ R fun v H1 s1 d1=>hb M0 H0 γ α σ H1 _ (R.next s1) fun u H2 s2 d2=>⟨i,j,d1,d2,g i j,rfl,by
  cases e:g i j with
  | true=>exact tZ (hc M0 H0 γ α σ H2 _ ((R.next s1).next s2) fun z H3 s3 d3=>⟨j,k,d2,d3,_,rfl,by have:=kk H3 ((s1.trans s2).trans s3); rw [e]at this; exact this⟩)
  | false=>exact rD ⟨_,rfl,by have:=kk H2 (s1.trans s2); rw [e]at this; exact this⟩⟩)
theorem c8.val{c:Bool}(h:az X ρ e (.bl c))(he: ∀whole,isTrue e X.env whole=(do let v<-whole; standAt e.pos; jW [v] (truthy v)):=by intro _; rfl):c8 X ρ e c:=
 fun M0 H0 γ α σ H Q R k=>(Jv g8 he).to (h M0 H0 γ α σ H _ R fun v H1 s1 d1=>⟨c,d1,k H1 s1⟩)
theorem i6.t{c:Bool}(h:i6 X ρ e c):c8 X ρ e c:=fun M0 H0 γ α σ H Q R k=>LP.pt.to (h M0 H0 γ α σ H Q R k)
theorem c8.not{c:Bool}(h:c8 X ρ a c):c8 X ρ (.UnaryOp .Not a pos) (!c):=
 fun M0 H0 γ α σ H Q R k=>(Jd Fw).to (h M0 H0 γ α σ H _ R fun H1 s1=>k H1 s1)
theorem az.not{c:Bool}(h:az X ρ a (.bl c)):az X ρ (.UnaryOp .Not a pos) (.bl (!c)):=
 fun M0 H0 γ α σ H Q R k=>(JY g8).to (h M0 H0 γ α σ H _ R fun v H1 s1 d1=>⟨c,d1,k _ H1 s1 rfl⟩)
theorem i6.and1{c:Bool}(h:c8 X ρ a c):i6 X ρ (.BoolOp .And [a] pos) c:=fun M0 H0 γ α σ H Q R k=>(pw_and1 Fw).to (h M0 H0 γ α σ H Q R k)
theorem i6.or1{c:Bool}(h:c8 X ρ a c):i6 X ρ (.BoolOp .Or [a] pos) c:=fun M0 H0 γ α σ H Q R k=>(pw_or1 Fw).to (h M0 H0 γ α σ H Q R k)
theorem i6.and{c c':Bool}(h:c8 X ρ a c)(h':c=true->i6 X ρ (.BoolOp .And (b::es) pos) c'):i6 X ρ (.BoolOp .And (a::b::es) pos) (c&&c'):=
 fun M0 H0 γ α σ H Q R k=>(pw_and Fw LP).to (h M0 H0 γ α σ H _ R fun H1 s1=>by
  cases e:c with
  | true=>rw [e]at k; exact tZ (h' e M0 H0 γ α σ H1 _ (R.next s1) fun H2 s2=>k H2 (s1.trans s2))
  | false=>rw [e]at k; exact rD (k H1 s1))
theorem i6.or{c c':Bool}(h:c8 X ρ a c)(h':c=false->i6 X ρ (.BoolOp .Or (b::es) pos) c'):i6 X ρ (.BoolOp .Or (a::b::es) pos) (c || c'):=
 fun M0 H0 γ α σ H Q R k=>(pw_or Fw LP).to (h M0 H0 γ α σ H _ R fun H1 s1=>by
  cases e:c with
  | false=>rw [e]at k; exact rD (h' e M0 H0 γ α σ H1 _ (R.next s1) fun H2 s2=>k H2 (s1.trans s2))
  | true=>rw [e]at k; exact tZ (k H1 s1))
theorem az.one{op}(h:az X ρ a d):az X ρ (.BoolOp op [a] pos) d:=fun M0 H0 γ α σ H Q R k=>(JS g8).to (h M0 H0 γ α σ H Q R k)
theorem az.and{c c':Bool}(h:az X ρ a (.bl c))(h':c=true->az X ρ (.BoolOp .And (b::es) pos) (.bl c')):az X ρ (.BoolOp .And (a::b::es) pos) (.bl (c&&c')):=
 fun M0 H0 γ α σ H Q R k=>(Js g8 g8).to (h M0 H0 γ α σ H _ R fun v H1 s1 d1=>⟨c,d1,by
  cases e:c with
  | true=>rw [e]at k; exact tZ (h' e M0 H0 γ α σ H1 _ (R.next s1) fun u H2 s2 d2=>k u H2 (s1.trans s2) d2)
  | false=>rw [e]at k; exact rD (k _ H1 s1 rfl)⟩)
end
structure pE where
 N:eZ->Prop
 R:D->Prop
 B:eZ->Prop:=fun _=>False
 C:eZ->Prop:=fun _=>False
def ends(K:Frag)(M0:MP)(H0:Hp)(γ:List (D×V))(P:pE):Ends where
 nx:=fun σ H=> ∃α ρ,Rep K M0 H0 γ α ρ σ H/\P.N ρ
 rt:=fun v H=> ∃d,P.R d/\bP H0 H/\Dn K M0 H d v
 bk:=fun σ H=> ∃α ρ,Rep K M0 H0 γ α ρ σ H/\P.B ρ
 ct:=fun σ H=> ∃α ρ,Rep K M0 H0 γ α ρ σ H/\P.C ρ
def W1(X:Cx)(M0:MP)(H0:Hp)(st:Stmt)(ρ:eZ)(P:pE):Prop:= ∀(γ:List (D×V)) (α:Nat->Addr) (σ:St) (H:Hp),Rep X.K M0 H0 γ α ρ σ H->tS X st (ends X.K M0 H0 γ P) σ H
def WS(X:Cx)(M0:MP)(H0:Hp)(st:List Stmt)(ρ:eZ)(P:pE):Prop:= ∀(γ:List (D×V)) (α:Nat->Addr) (σ:St) (H:Hp),Rep X.K M0 H0 γ α ρ σ H->nE X st (ends X.K M0 H0 γ P) σ H
section
variable {X:Cx}{M0:MP}{H0:Hp}{st:Stmt}{sts:List Stmt}{ρ:eZ}{P P':pE}{e a b c:Expr}{d:D}{ds:List D}{pos pos':Pos}{En En':Ends}{σ:St}{H:Hp}
theorem SP.mono{pins:List (Addr×Obj)}{f:Flow}{s:ai}(h1: ∀σ H,En.nx σ H->En'.nx σ H)(h2: ∀v H,En.rt v H->En'.rt v H)(h3: ∀σ H,En.bk σ H->En'.bk σ H)(h4: ∀σ H,En.ct σ H->En'.ct σ H)(h:SP X pins En f s):SP X pins En' f s:=by
 cases f with
 | next=>obtain⟨σ,H,I,q⟩:=h; exact⟨σ,H,I,h1 _ _ q⟩
 | brk=>obtain⟨σ,H,I,q⟩:=h; exact⟨σ,H,I,h3 _ _ q⟩
 | cont=>obtain⟨σ,H,I,q⟩:=h; exact⟨σ,H,I,h4 _ _ q⟩
 | ret u=>obtain⟨v,σ,H,I,r,q⟩:=h; exact⟨v,σ,H,I,r,h2 _ _ q⟩
theorem tS.mono(h1: ∀σ H,En.nx σ H->En'.nx σ H)(h2: ∀v H,En.rt v H->En'.rt v H)(h3: ∀σ H,En.bk σ H->En'.bk σ H)(h4: ∀σ H,En.ct σ H->En'.ct σ H)(h:tS X st En σ H):tS X st En' σ H:=
 fun pins s I=>eQ (h pins s I) fun f s' q=>SP.mono h1 h2 h3 h4 q
theorem nE.mono(h1: ∀σ H,En.nx σ H->En'.nx σ H)(h2: ∀v H,En.rt v H->En'.rt v H)(h3: ∀σ H,En.bk σ H->En'.bk σ H)(h4: ∀σ H,En.ct σ H->En'.ct σ H)(h:nE X sts En σ H):nE X sts En' σ H:=
 fun pins s I=>eQ (h pins s I) fun f s' q=>SP.mono h1 h2 h3 h4 q
theorem WS.nil(h:P.N ρ):WS X M0 H0 [] ρ P:=fun γ α σ H R=>qH.to ⟨α,ρ,R,h⟩
theorem WS.cons(h:W1 X M0 H0 st ρ {P with N:=fun ρ'=>WS X M0 H0 sts ρ' P}):WS X M0 H0 (st::sts) ρ P:=fun γ α σ H R=>
 (dS uM gI).to (tS.mono (En:=ends X.K M0 H0 γ {P with N:=fun ρ'=>WS X M0 H0 sts ρ' P}) (fun σ' H' ⟨α',ρ',R',w⟩=>w γ α' σ' H' R') (fun _ _ q=>q) (fun _ _ q=>q) (fun _ _ q=>q) (h γ α σ H R))
theorem WS.one(h:W1 X M0 H0 st ρ P):WS X M0 H0 [st] ρ P:=fun γ α σ H R=>(qM uM).to (h γ α σ H R)
theorem W1.imp(h:W1 X M0 H0 st ρ P)(h1: ∀ρ,P.N ρ->P'.N ρ)(h2: ∀d,P.R d->P'.R d)(h3: ∀ρ,P.B ρ->P'.B ρ)(h4: ∀ρ,P.C ρ->P'.C ρ):W1 X M0 H0 st ρ P':=fun γ α σ H R=>
 tS.mono (En:=ends X.K M0 H0 γ P) (fun _ _ ⟨α,ρ,R,q⟩=>⟨α,ρ,R,h1 _ q⟩) (fun _ _ ⟨d,q,r⟩=>⟨d,h2 _ q,r⟩) (fun _ _ ⟨α,ρ,R,q⟩=>⟨α,ρ,R,h3 _ q⟩) (fun _ _ ⟨α,ρ,R,q⟩=>⟨α,ρ,R,h4 _ q⟩) (h γ α σ H R)
theorem WS.freeze{i:Nat}(hi:ρ[i]? =some (.mu ds))(h:WS X M0 H0 sts (ρ.set i (.im (.lst ds))) P):WS X M0 H0 sts ρ P:=fun γ α σ H R=>h γ α σ H (R.freeze hi)
theorem W1.ret(h:az X ρ e d)(q:P.R d):W1 X M0 H0 (.Return (some e) pos) ρ P:=fun γ α σ H R=>
 (Jr g8).to (h M0 H0 γ α σ H _ R fun v H' s x=>⟨d,q,R.same.trans s,x.less fun a m=> .inl m⟩)
theorem W1.expr(h:az X ρ e d)(q:P.N ρ)(hs:cO e none pos.line X.env=pure false:=by rfl):W1 X M0 H0 (.Expr e pos) ρ P:=fun γ α σ H R=>
 (mF g8 hs).to (h M0 H0 γ α σ H _ R fun v H' s x=>⟨α,ρ,R.next s,q⟩)
theorem W1.ite{s1 s2:List Stmt}{t:Bool}(h:c8 X ρ c t)(h1:t=true->WS X M0 H0 s1 ρ P)(h2:t=false->WS X M0 H0 s2 ρ P):W1 X M0 H0 (.If c s1 s2 pos) ρ P:=fun γ α σ H R=>
 (Ay Fw gI gI).to (h M0 H0 γ α σ H _ R fun H1 s=>by
  cases e:t with
  | true=>exact tZ (h1 e γ α σ H1 (R.next s))
  | false=>exact rD (h2 e γ α σ H1 (R.next s)))
theorem W1.set{i:Nat}{x:Str}(hN:X.N.Nodup)(hi:X.N[i]? =some x)(hx:Loc X.env.scope x)(hl:i < ρ.length)(h:az X ρ e d)(q:P.N (ρ.set i (.im d)))
  (hs:cO e (some (.Name x pos')) pos.line X.env=pure false:=by rfl)(hf:X.fn x=true\/X.env.scope.names.lookup x=some .local:=by first | exact .inl rfl | exact .inr rfl | assumption):W1 X M0 H0 (.Assign [.Name x pos'] e pos) ρ P:=fun γ α σ H R=>
 (pL hN hi hx g8 hs hf).to (h M0 H0 γ α σ H _ R fun v H' s x=>⟨α,_,(R.next s).set_im hl x,q⟩)
theorem W1.setF{i:Nat}{x:Str}(hN:X.N.Nodup)(hi:X.N[i]? =some x)(hx:Loc X.env.scope x)(hl:i < ρ.length)(h:ef X ρ e ds)(q:P.N (ρ.set i (.mu ds)))
  (hs:cO e (some (.Name x pos')) pos.line X.env=pure false:=by rfl)(hf:X.fn x=true\/X.env.scope.names.lookup x=some .local:=by first | exact .inl rfl | exact .inr rfl | assumption):W1 X M0 H0 (.Assign [.Name x pos'] e pos) ρ P:=fun γ α σ H R=>
 (pL hN hi hx g8 hs hf).to (h M0 H0 γ α σ H _ R fun l xs H1 H' s n s' y z=>⟨_,_,(R.next s).set_mu hl n s' y z,q⟩)
def tG(X:Cx)(tg:Expr):TG:=fun v σ H Q=> ∀(pins:List (Addr×Obj)) (s:ai) (u:Value),Inv X pins σ H s->RelV v u->wpAny (model X.prog X.w) X.A (ko tg X.env u) (fun _ s'=> ∃σ' H',Inv X pins σ' H' s'/\Q σ' H') X.xe s
theorem MS{tg:Expr}:PG X tg (tG X tg):=fun pins s σ H v u Q I r h=>h pins s u I r
theorem _root_.L2.PG.to{tg:Expr}{t:TG}{v:V}{Q:St->Hp->Prop}(h:PG X tg t)(q:t v σ H Q):tG X tg v σ H Q:=fun pins s u I r=>h pins s σ H v u Q I r q
def yS(X:Cx)(tg:Expr)(d:D)(ρ ρ':eZ):Prop:= ∀(M0:MP) (H0:Hp) (γ:List (D×V)) (α:Nat->Addr) (σ:St) (H:Hp) (v:V) (Q:St->Hp->Prop),Rep X.K M0 H0 γ α ρ σ H->Dn X.K (MM M0 ρ α) H d v->
 (∀σ',Rep X.K M0 H0 γ α ρ' σ' H->Q σ' H)->tG X tg v σ H Q
theorem yS.name{i:Nat}{x:Str}(hN:X.N.Nodup)(hi:X.N[i]? =some x)(hx:Loc X.env.scope x)(hl:i < ρ.length)
  (hf:X.fn x=true\/X.env.scope.names.lookup x=some .local:=by first | exact .inl rfl | exact .inr rfl | assumption):yS X (.Name x pos) d ρ (ρ.set i (.im d)):=fun M0 H0 γ α σ H v Q R h k=>
 (lA hN hi hx hf).to (k _ (R.set_im hl h))
theorem yS.pair{i j:Nat}{x y:Str}{d1 d2:D}{p1 p2:Pos}{kk:Nat}(hc:X.calm=true)(hN:X.N.Nodup)(hi:X.N[i]? =some x)(hx:Loc X.env.scope x)(hl:i < ρ.length)(hj:X.N[j]? =some y)(hy:Loc X.env.scope y)(hm:j < ρ.length)
  (hf:X.fn x=true\/X.env.scope.names.lookup x=some .local:=by first | exact .inl rfl | exact .inr rfl | assumption)(hg:X.fn y=true\/X.env.scope.names.lookup y=some .local:=by first | exact .inl rfl | exact .inr rfl | assumption):
  yS X (.Tuple [.Name x p1, .Name y p2] kk pos) (.tup [d1,d2]) ρ ((ρ.set i (.im d1)).set j (.im d2)):=fun M0 H0 γ α σ H v Q R h k=>by
 obtain⟨a,xs,rfl,hs,v1,r1,rfl,h1,v2,r2,rfl,h2,rfl⟩:=h
 refine(ET hc (oS (lA hN hi hx hf) (oS (lA hN hj hy hg) AD))).to ⟨a,_,rfl,hs,rfl,v1,_,rfl,v2,_,rfl,rfl, ?_⟩
 refine k _ ((R.set_im hl h1).set_im (by rw [bo]; exact hm) (h2.less fun a=>jx (by intro _ e; cases e)))
theorem Et{body:List Stmt}{γ γ':List (D×V)}{α:Nat->Addr}{J:eZ->Prop}(hg: ∀{α:Nat->Addr} {ρ:eZ} {σ:St} {H:Hp},Rep X.K M0 H0 γ' α ρ σ H->Rep X.K M0 H0 γ α ρ σ H)
  (R:Rep X.K M0 H0 γ' α ρ σ H)(w:WS X M0 H0 body ρ {P with N:=J,C:=J,B:=P.N}):
  nE X body {ends X.K M0 H0 γ P with nx:=fun σ H=> ∃α ρ,Rep X.K M0 H0 γ' α ρ σ H/\J ρ,ct:=fun σ H=> ∃α ρ,Rep X.K M0 H0 γ' α ρ σ H/\J ρ,bk:=(ends X.K M0 H0 γ P).nx} σ H:=
 nE.mono (En:=ends X.K M0 H0 γ' {P with N:=J,C:=J,B:=P.N}) (fun _ _ q=>q) (fun _ _ q=>q) (fun _ _ ⟨α,ρ,R,q⟩=>⟨α,ρ,hg R,q⟩) (fun _ _ q=>q) (w γ' α σ H R)
theorem W1.while{body:List Stmt}(I:eZ->Prop)(μ:eZ->Nat)(hp:sS (model X.prog X.w) X.A X.env X.xe)(h0:I ρ)
  (ht: ∀ρ,I ρ-> ∃t,c8 X ρ c t/\(t=true->WS X M0 H0 body ρ {P with N:=fun ρ'=>I ρ'/\μ ρ' < μ ρ,C:=fun ρ'=>I ρ'/\μ ρ' < μ ρ,B:=P.N})/\(t=false->P.N ρ)):W1 X M0 H0 (.While c body [] pos) ρ P:=fun γ α σ H R=>by
 refine(xu hp Fw gI).to ⟨fun m σ H=> ∃α ρ,Rep X.K M0 H0 γ α ρ σ H/\I ρ/\μ ρ=m,⟨μ ρ,α,ρ,R,h0,rfl⟩, ?_⟩
 rintro m σ2 H2 ⟨α2,ρ2,R2,i2,rfl⟩
 obtain⟨t,h1,h2,h3⟩:=ht ρ2 i2
 refine h1 M0 H0 γ α2 σ2 H2 _ R2 fun H3 s=> ?_
 cases e:t with
 | true=>
  refine tZ ⟨fun σ H=> ∃α ρ,Rep X.K M0 H0 γ α ρ σ H/\(I ρ/\μ ρ < μ ρ2),fun σ' H' ⟨α',ρ',R',i',l'⟩=>⟨_,l',α',ρ',R',i',rfl⟩, ?_⟩
  exact Et (fun r=>r) (R2.next s) (h2 e)
 | false=>exact rD ⟨α2,ρ2,R2.next s,h3 e⟩
def IB(X:Cx)(o:Expr)(name:Str)(e:Expr)(apos cpos:Pos):Prop:=jk o name X.env (eval o X.env)=eval o X.env/\
 ((e_ cpos (ax [e] X.env)).all (fun x=> !x.1)&&(backToKw cpos (CV [] X.env)).all (fun x=>x.1.isSome)&&decide ([e].length+([]:List Keyword).length+(if([]:List Keyword).isEmpty then 0 else 1) < 30))=true/\
 (apos.endLine==cpos.line)=true/\ax [e] X.env= [(false,eval e X.env)]
theorem W1.mt1{i:Nat}{x name:Str}{id:String}{es:List D}{r:V->List V->Hp->VK->Prop}{p1 p2 p3:Pos}(pa:PlainAttrs "list")(sl:Slot "list" name id)(hty:typeOf (.builtin id)=pure (.type "method_descriptor"))(hm:Ll X id r)
  (hi:X.N[i]? =some x)(hv:wM X.env.scope x)(hρ:ρ[i]? =some (.mu ds))(h:az X ρ e d)
  (hr: ∀(M:MP) (H:Hp) (l:Addr) (xs:List V) (v:V) (Q:VK),H l=some (.lst xs)->cE X.K M H ds xs->Dn X.K M H d v->(∀u ys,cE X.K M H es ys->Q u (upd H l (.lst ys)))->r (.ref l) [v] H Q)(q:P.N (ρ.set i (.mu es)))
  (mc:IB X (.Name x p1) name e p2 p3)(hd:(x==("__debug__":Str))=false:=by decide)(hcd:(x==("__classdict__":Str))=false:=by decide)(hsw:cO (.Call (.Attribute (.Name x p1) name p2) [e] [] p3) none pos.line X.env=pure false:=by rfl):
  W1 X M0 H0 (.Expr (.Call (.Attribute (.Name x p1) name p2) [e] [] p3) pos) ρ P:=fun γ α σ H R=>by
 obtain⟨m1,m2,m3,m4⟩:=mc
 obtain⟨a1,a2,xs,a3,a4⟩:=R.mu i ds hρ
 refine(mF (xh pa sl hty hm (jF hi hv hd hcd) vh m1 m2 m3 m4 rfl) hsw).to ?_
 refine⟨_,a2, .inl ⟨rfl,_,lq.of a3⟩,(bp.cons h bp.nil m4) M0 H0 γ α σ H _ R fun vs H1 s y=> ?_⟩
 obtain⟨v,r,rfl,e1,e2⟩:=y
 cases e2
 exact hr _ H1 (α i) xs v _ (s _ _ a3) (a4.same s) e1 fun u ys hy=>⟨α,_,(R.next s).upd_mu hρ hy,q⟩
theorem vB{n:Nat}(h:n < 1000000):n < sizeLine:=aZ h (by decide)
theorem W1.append{i:Nat}{x:Str}{p1 p2 p3:Pos}(hi:X.N[i]? =some x)(hv:wM X.env.scope x)(hρ:ρ[i]? =some (.mu ds))(h:az X ρ e d)(hl:ds.length < 1000000)(q:P.N (ρ.set i (.mu (ds ++ [d]))))
  (mc:IB X (.Name x p1) "append" e p2 p3)(hd:(x==("__debug__":Str))=false:=by decide)(hcd:(x==("__classdict__":Str))=false:=by decide)(hsw:cO (.Call (.Attribute (.Name x p1) "append" p2) [e] [] p3) none pos.line X.env=pure false:=by rfl):
  W1 X M0 H0 (.Expr (.Call (.Attribute (.Name x p1) "append" p2) [e] [] p3) pos) ρ P:=
 W1.mt1 fV yI yJ kM hi hv hρ h (fun M H l xs v Q a b c k=>⟨l,xs,v,rfl,rfl,a,by rw [b.len]; exact vB hl,k _ _ (cE.app b (cE.one c))⟩) q mc hd hcd hsw
theorem Dr(l b:Addr)(xs ys:Array Value)(n m:Nat)(dd:Option Addr)(sl:Array (Option Value))(h0: ¬(!xs.isEmpty&&hJ (xs.size+ys.size))=true)(h1:xs.size<=sizeLine)(h2:xs.size+ys.size<=sizeLine):
  Meets (cP.«list.extend» ⟨[.ref l, .ref b], []⟩) (fun _ R s=>s.heap.get? l=some {cls:= .type "list",data:= .seq xs n}/\s.heap.get? b=some {cls:= .type "list",dict:=dd,data:= .seq ys m,slots:=sl}/\
   R (.ok (.ret bf)) {s with heap:=s.heap.update l (cJ fun x=>x ++ ys),toks:=s.toks}):=
 .of_wp fun prog w A R s h=>by
  obtain⟨hp,g,d,tk,os⟩:=s
  obtain⟨hl,hb,h⟩:=h
  have f2:=hG
  have f3:=Al
  have hz:(xs ++ ys).size<=sizeLine+1:=by rw [Array.size_append]; omega
  wp_walk using (IK hl rfl (hz:=h1) (_hz':=hz)),cq hl,cq hb
  exact⟨_,rfl,h⟩
theorem BJ(l b:Addr)(xs ys:Array Value)(n m:Nat)(dd:Option Addr)(sl:Array (Option Value))(h0: ¬(!xs.isEmpty&&hJ (xs.size+ys.size))=true)(h1:xs.size<=sizeLine)(h2:xs.size+ys.size<=sizeLine):
  Meets (cP.«list.extend» ⟨[.ref l, .ref b], []⟩) (fun _ R s=>s.heap.get? l=some {cls:= .type "list",data:= .seq xs n}/\s.heap.get? b=some {cls:= .type "tuple",dict:=dd,data:= .seq ys m,slots:=sl}/\
   R (.ok (.ret bf)) {s with heap:=s.heap.update l (cJ fun x=>x ++ ys),toks:=s.toks}):=
 .of_wp fun prog w A R s h=>by
  obtain⟨hp,g,d,tk,os⟩:=s
  obtain⟨hl,hb,h⟩:=h
  have f2:=hG
  have f3:=Al
  have hz:(xs ++ ys).size<=sizeLine+1:=by rw [Array.size_append]; omega
  wp_walk using (IK hl rfl (hz:=h1) (_hz':=hz)),cq hl,cq hb
  exact⟨_,rfl,h⟩
def KW(K:Frag):V->List V->Hp->VK->Prop:=fun x vs H Q=> ∃l b xs zs,x= .ref l/\vs= [.ref b]/\H l=some (.lst xs)/\(lq K H b zs\/i5 K H b zs)/\xs.length+zs.length<=sizeLine/\Q .non (upd H l (.lst (xs ++ zs)))
theorem GV:Ll X "list.extend" (KW X.K):=by
 intro pins s σ H x vs v us Q I rx rv h
 obtain⟨l,b,xs,zs,rfl,rfl,hH,hB,hz,q⟩:=h
 cases rx
 obtain⟨u,rfl,ru⟩:=rv.one
 cases ru
 obtain⟨z,its,n,r,hl,e⟩:=I.lstM hH
 have key: ∀its2:List Value,Vals zs its2->its.toArray.size+its2.toArray.size<=sizeLine/\ ¬(!its.toArray.isEmpty&&hJ (its.toArray.size+its2.toArray.size))=true:=fun its2 r2=>by
  have hl2:=r2.length
  have hsz:its.toArray.size+its2.toArray.size<=sizeLine:=by rw [aB,aB]; omega
  refine⟨hsz, ?_⟩
  rw [EY hsz,iR]
  exact aC
 have fin: ∀its2:List Value,Vals zs its2->EP X pins σ Q bf {s with heap:=s.heap.update l (cJ fun x=>x ++ its2.toArray),toks:=s.toks}:=fun its2 r2=>
  ⟨.non,_,I.lset (its':=its ++ its2) hH e (by simp) (r.append r2) (by rw [aw]; exact hz),rfl,q⟩
 rcases hB with hB | hB
 ·obtain⟨its2,r2,⟨⟨oc,od,odt,osl⟩,n2,e2,ec,ed,edt⟩,z2⟩:=I.list hB
  simp only at ec ed edt
  subst ec ed edt
  obtain⟨k1,k2⟩:=key its2 r2
  exact call_meets F.slot_list_extend ⟨_,e,rfl⟩ F.entry_list_extend (F.args_list_extend_2 _ _) (Dr l b its.toArray its2.toArray n n2 none osl k2 (by rw [aB]; omega) k1) ⟨e,e2,fin its2 r2⟩
 ·obtain⟨its2,r2,⟨⟨oc,od,odt,osl⟩,e2,ec,n2,edt⟩,z2⟩:=I.tuple hB
  simp only at ec edt
  subst ec edt
  obtain⟨k1,k2⟩:=key its2 r2
  exact call_meets F.slot_list_extend ⟨_,e,rfl⟩ F.entry_list_extend (F.args_list_extend_2 _ _) (BJ l b its.toArray its2.toArray n n2 od osl k2 (by rw [aB]; omega) k1) ⟨e,e2,fin its2 r2⟩
end
section
variable {X:Cx}{M0:MP}{H0:Hp}{ρ:eZ}{P:pE}{e a b c:Expr}{es:List Expr}{d:D}{ds:List D}{pos p:Pos}
theorem cE.at{K:Frag}{M:MP}{H:Hp}{ds:List D}{vs:List V}{k:Int}{d:D}(h:cE K M H ds vs)(e:uw ds k=some d): ∃v,uw vs k=some v/\Dn K M H d v:=by
 obtain⟨j,h1,h2,h3,h4,h5⟩:=vi e
 obtain⟨v,q1,q2⟩:=h.get h2
 refine⟨v, ?_,q2⟩
 unfold uw at e ⊢
 rw [h.len]
 cases z:C5 ds.length k with
 | none=>rw [z]at e; cases e
 | some j'=>
  obtain⟨w,_⟩:=oA z
  rw [h1]at w; cases w
  exact q1
theorem az.ixL{k:Int}(ha:kT X ρ a (.lst ds))(hb:az X ρ b (.int k))(hk:uw ds k=some d)(hs:oV b:=by intro _ _; rfl):az X ρ (.Subscript a b pos) d:=
 fun M0 H0 γ α σ H Q R kk=>(EA HX g8 g8 hs).to (ha M0 H0 γ α σ H _ R fun v H1 s1 d1=>hb M0 H0 γ α σ H1 _ (R.next s1) fun u H2 s2 d2=>by
  obtain⟨q,xs,rfl,sq,dn⟩:=d1.same s2
  obtain⟨w,e1,e2⟩:=dn.at hk
  exact⟨q,xs,k,w,rfl,d2,sq,e1,kk w H2 (s1.trans s2) e2⟩)
theorem az.ixT{k:Int}(ha:az X ρ a (.tup ds))(hb:az X ρ b (.int k))(hk:uw ds k=some d)(hs:oV b:=by intro _ _; rfl):az X ρ (.Subscript a b pos) d:=
 fun M0 H0 γ α σ H Q R kk=>(EA JF g8 g8 hs).to (ha M0 H0 γ α σ H _ R fun v H1 s1 d1=>hb M0 H0 γ α σ H1 _ (R.next s1) fun u H2 s2 d2=>by
  obtain⟨q,xs,rfl,sq,dn⟩:=d1.same s2
  obtain⟨w,e1,e2⟩:=dn.at hk
  exact⟨q,xs,k,w,rfl,d2,sq,e1,kk w H2 (s1.trans s2) e2⟩)
theorem az.callB{id:String}{x:Str}{r:List V->Hp->VK->Prop}(hc:gz X (.builtin id) r)(hg:Gl X x)(hm:X.mg x=none)(hv:di x=some (.builtin id))(ha:s9 X ρ (e::es) ds)
  (hr: ∀(M:MP) (H:Hp) (vs:List V) (Q:VK),xB X.K M H ds vs->(∀v H',bP H H'->Dn X.K M H' d v->Q v H')->r vs H Q)(hn:x≠"__name__":=by decide)(hdb:(x==("__debug__":Str))=false:=by decide)
  (he:ax (e::es) X.env=(false,eval e X.env)::ax es X.env:=by rfl)(hpl:(e_ pos (ax es X.env)).any (·.1)=false:=by rfl):az X ρ (.Call (.Name x p) (e::es) [] pos) d:=
 fun M0 H0 γ α σ H Q R k=>(il hc hg hm hv vh hn hdb he hpl).to (ha M0 H0 γ α σ H _ R fun vs H1 s1 d1=>hr _ H1 vs Q d1 fun v H2 s2 d2=>k v H2 (s1.trans s2) d2)
theorem az.callTy{T:String}{x:Str}{r:List V->Hp->VK->Prop}(hc:gz X (.type T) r)(hg:Gl X x)(hm:X.mg x=none)(hv:di x=some (.type T))(ha:s9 X ρ (e::es) ds)
  (hr: ∀(M:MP) (H:Hp) (vs:List V) (Q:VK),xB X.K M H ds vs->(∀v H',bP H H'->Dn X.K M H' d v->Q v H')->r vs H Q)(hn:x≠"__name__":=by decide)(hdb:(x==("__debug__":Str))=false:=by decide)
  (he:ax (e::es) X.env=(false,eval e X.env)::ax es X.env:=by rfl)(hpl:(e_ pos (ax es X.env)).any (·.1)=false:=by rfl):az X ρ (.Call (.Name x p) (e::es) [] pos) d:=
 fun M0 H0 γ α σ H Q R k=>(jy hc hg hm hv vh hn hdb he hpl).to (ha M0 H0 γ α σ H _ R fun vs H1 s1 d1=>hr _ H1 vs Q d1 fun v H2 s2 d2=>k v H2 (s1.trans s2) d2)
theorem ef.callTy{T:String}{x:Str}{fs:List D}{r:List V->Hp->VK->Prop}(hc:gz X (.type T) r)(hg:Gl X x)(hm:X.mg x=none)(hv:di x=some (.type T))(ha:s9 X ρ (e::es) ds)
  (hr: ∀(M:MP) (H:Hp) (vs:List V) (Q:VK),xB X.K M H ds vs->(∀l xs H1 H',bP H H1->H1 l=none->bP H1 H'->H' l=some (.lst xs)->cE X.K (fun a=>M a\/a=l) H' fs xs->Q (.ref l) H')->r vs H Q)(hn:x≠"__name__":=by decide)(hdb:(x==("__debug__":Str))=false:=by decide)
  (he:ax (e::es) X.env=(false,eval e X.env)::ax es X.env:=by rfl)(hpl:(e_ pos (ax es X.env)).any (·.1)=false:=by rfl):ef X ρ (.Call (.Name x p) (e::es) [] pos) fs:=
 fun M0 H0 γ α σ H Q R k=>(jy hc hg hm hv vh hn hdb he hpl).to (ha M0 H0 γ α σ H _ R fun vs H1 s1 d1=>hr _ H1 vs Q d1 fun l xs H2 H3 s2 n s3 q dn=>k l xs H2 H3 (s1.trans s2) n s3 q dn)
theorem s9.one(h:kT X ρ e d)(hs:ax [e] X.env= [(false,eval e X.env)]:=by rfl):s9 X ρ [e] [d]:=s9.cons h s9.nil hs
def uI:D->List D->Prop
 | .lst ds,es=>ds=es
 | .tup ds,es=>ds=es
 | _,_=>False
theorem vG{K:Frag}{M:MP}{H:Hp}{d:D}{ds:List D}{v:V}(hq:uI d ds)(h:oC K M H d v): ∃q xs,v= .ref q/\(lq K H q xs\/i5 K H q xs)/\cE K M H ds xs:=by
 cases d with
 | lst es=>cases hq; obtain⟨q,xs,e,s,r⟩:=h; exact⟨q,xs,e, .inl s,r⟩
 | tup es=>cases hq; obtain⟨q,xs,e,s,r⟩:=h; exact⟨q,xs,e, .inr s,r⟩
 | _=>exact hq.elim
theorem az.len(hg:Gl X "len")(hm:X.mg "len"=none)(h:kT X ρ e d)(hq:uI d ds)(he:ax [e] X.env= [(false,eval e X.env)]:=by rfl):az X ρ (.Call (.Name "len" p) [e] [] pos) (.int ds.length):=
 az.callB vP hg hm PySem.boot_len (s9.one h he) (fun M H vs Q dn k=>by
  obtain⟨v,r,rfl,e1,e2⟩:=dn
  cases e2
  obtain⟨q,xs,rfl,s,z⟩:=vG hq e1
  exact⟨q,xs,rfl,s,k _ H (bP.refl _) (by rw [z.len]; exact rfl)⟩) (he:=he)
theorem ef.list(hg:Gl X "list")(hm:X.mg "list"=none)(hv:di "list"=some (.type "list"))(h:kT X ρ e d)(hq:uI d ds)(he:ax [e] X.env= [(false,eval e X.env)]:=by rfl):ef X ρ (.Call (.Name "list" p) [e] [] pos) ds:=
 ef.callTy vq hg hm hv (s9.one h he) (fun M H vs Q dn k=>by
  obtain⟨v,r,rfl,e1,e2⟩:=dn
  cases e2
  obtain⟨q,xs,rfl,s,z⟩:=vG hq e1
  exact⟨q,xs,rfl,s,fun l hl=>k l xs H _ (bP.refl _) hl (bw hl) bG ((sh hl z).same (bw hl))⟩) (he:=he)
theorem az.tuple(hg:Gl X "tuple")(hm:X.mg "tuple"=none)(hv:di "tuple"=some (.type "tuple"))(h:kT X ρ e d)(hq:uI d ds)(he:ax [e] X.env= [(false,eval e X.env)]:=by rfl):az X ρ (.Call (.Name "tuple" p) [e] [] pos) (.tup ds):=
 az.callTy tN hg hm hv (s9.one h he) (fun M H vs Q dn k=>by
  obtain⟨v,r,rfl,e1,e2⟩:=dn
  cases e2
  obtain⟨q,xs,rfl,s,z⟩:=vG hq e1
  refine⟨q,xs,rfl, ?_⟩
  rcases s with s | s
  ·exact .inl ⟨s,fun l hl=>k _ _ (bw hl) ⟨l,xs,rfl,i5.of bG,z.same (bw hl)⟩⟩
  ·exact .inr ⟨s,k _ H (bP.refl _) ⟨q,xs,rfl,s,z⟩⟩) (he:=he)
theorem az.min(hc:X.calm=true)(hg:Gl X "min")(hm:X.mg "min"=none)(hv:di "min"=some (.builtin "min")){i j:Int}(ha:az X ρ a (.int i))(hb:az X ρ b (.int j))
  (he:ax [a,b] X.env=(false,eval a X.env)::ax [b] X.env:=by rfl)(he2:ax [b] X.env= [(false,eval b X.env)]:=by rfl)(hpl:(e_ pos (ax [b] X.env)).any (·.1)=false:=by rfl):az X ρ (.Call (.Name "min" p) [a,b] [] pos) (.int (if j < i then j else i)):=
 az.callB (BU hc) hg hm hv (s9.cons ha.r (s9.one hb.r he2) he) (fun M H vs Q dn k=>by
  obtain⟨v,r,rfl,e1,v2,r2,rfl,e2,e3⟩:=dn
  cases e1; cases e2; cases e3
  exact⟨i,j,rfl,k _ H (bP.refl _) rfl⟩) (he:=he) (hpl:=hpl)
mutual
def D.pd:D->PyData
 | .non=> .none
 | .bl b=> .bool b
 | .int i=> .int i
 | .str x=> .str x
 | .tup ds=> .tuple (D.pds ds)
 | .lst ds=> .list (D.pds ds)
 | .ins _ _ _=> .none
 | .exc _=> .none
 | .dct _ _=> .none
def D.pds:List D->List PyData
 | []=> []
 | d::ds=>D.pd d::D.pds ds
end
def D.flat:Nat->D->Prop
 | _, .non=>True
 | _, .bl _=>True
 | _, .int _=>True
 | _, .str x=>PyData.strOk x=true
 | n+1, .tup ds=> ∀d∈ds,D.flat n d
 | n+1, .lst ds=> ∀d∈ds,D.flat n d
 | _,_=>False
theorem jJ{pins:List (Addr×Obj)}{s:ai}{σ:St}{H:Hp}{M:MP}(I:Inv X pins σ H s): ∀(n:Nat),
  (∀(d:D) (v:V) (u:Value),D.flat n d->oC X.K M H d v->RelV v u-> ∃as,Reads s.heap u d.pd as):=by
 intro n
 have all: ∀m:Nat,(∀(d:D) (v:V) (u:Value),D.flat m d->oC X.K M H d v->RelV v u-> ∃as,Reads s.heap u d.pd as)->
   ∀(ds:List D) (vs:List V) (us:List Value),(∀d∈ds,D.flat m d)->cE X.K M H ds vs->Vals vs us-> ∃as,ReadsAll s.heap us (D.pds ds) as:=by
  intro m ih ds
  induction ds with
  | nil=>intro vs us _ h r; cases (show vs= []from h); cases r; exact⟨_, .nil⟩
  | cons d ds hi=>
   intro vs us hf h r
   obtain⟨v,t,rfl,h1,h2⟩:=h
   cases r with
   | cons r1 r2=>
    obtain⟨as,q1⟩:=ih d v _ (hf d (.head _)) h1.t r1
    obtain⟨bs,q2⟩:=hi t _ (fun x hx=>hf x (.tail _ hx)) h2 r2
    exact⟨_, .cons q1 q2⟩
 have base: ∀(m:Nat) (d:D) (v:V) (u:Value),(∀ds,d≠ .tup ds)->(∀ds,d≠ .lst ds)->D.flat m d->oC X.K M H d v->RelV v u-> ∃as,Reads s.heap u d.pd as:=by
  intro m d v u n1 n2 hf h r
  cases d with
  | non=>cases (show v= .non from h); cases (show u=bf from r); exact⟨_, .none⟩
  | bl b=>cases (show v= .bl b from h); cases (show u=fC b from r); exact⟨_, .bool b⟩
  | int i=>cases (show v= .int i from h); obtain⟨t,rfl⟩:=r; exact⟨_, .int i t⟩
  | str x=>cases (show v= .str x from h); obtain⟨t,rfl⟩:=r; exact⟨_, .str x t⟩
  | tup ds=>exact absurd rfl (n1 ds)
  | lst ds=>exact absurd rfl (n2 ds)
  | ins _ _ _=>cases m <;> exact hf.elim
  | exc _=>cases m <;> exact hf.elim
  | dct _ _=>cases m <;> exact hf.elim
 induction n with
 | zero=>
  intro d v u hf h r
  refine base 0 d v u (fun ds e=> ?_) (fun ds e=> ?_) hf h r <;> (subst e; exact hf.elim)
 | succ n ih=>
  intro d v u hf h r
  cases d with
  | tup ds=>
   obtain⟨a,xs,rfl,sq,dn⟩:=h
   cases (show u=aq a from r)
   obtain⟨its,rv,⟨o,e1,e2,m,e3⟩,_⟩:=I.tuple sq
   obtain⟨as,q⟩:=all n ih ds xs its hf dn rv
   exact⟨_, .tuple e1 e2 e3 (by simpa [D.pds]using q)⟩
  | lst ds=>
   obtain⟨a,xs,rfl,sq,dn⟩:=h
   cases (show u=aq a from r)
   obtain⟨its,rv,⟨o,m,e1,e2,_,e3⟩,_⟩:=I.list sq
   obtain⟨as,q⟩:=all n ih ds xs its hf dn rv
   exact⟨_, .list e1 e2 e3 (by simpa [D.pds]using q)⟩
  | _=>exact base (n+1) _ v u (fun ds e=>nomatch e) (fun ds e=>nomatch e) hf h r
theorem kF: ∀(n:Nat) (d:D),D.flat n d->d.pd.canLay0=true/\d.pd.depth<=n:=by
 have all: ∀m:Nat,(∀d:D,D.flat m d->d.pd.canLay0=true/\d.pd.depth<=m)-> ∀ds:List D,(∀d∈ds,D.flat m d)->dY (D.pds ds)=true/\dD (D.pds ds)<=m:=by
  intro m ih ds
  induction ds with
  | nil=>intro _; exact⟨by simp [D.pds,dY],by simp [D.pds,dD]⟩
  | cons d ds hi=>
   intro hf
   obtain⟨a1,a2⟩:=ih d (hf d (.head _))
   obtain⟨b1,b2⟩:=hi fun x hx=>hf x (.tail _ hx)
   exact⟨by simp [D.pds,dY,a1,b1],by simp only [D.pds,dD]; omega⟩
 intro n
 induction n with
 | zero=>intro d hf; cases d <;> simp_all [D.flat,D.pd,iS,jX]
 | succ n ih=>
  intro d hf
  cases d with
  | tup ds=>obtain⟨b1,b2⟩:=all n ih ds hf; exact⟨by simpa [D.pd,iS]using b1,by simp only [D.pd,jX]; omega⟩
  | lst ds=>obtain⟨b1,b2⟩:=all n ih ds hf; exact⟨by simpa [D.pd,iS]using b1,by simp only [D.pd,jX]; omega⟩
  | _=>simp_all [D.flat,D.pd,iS,jX]
theorem kc{d:D}(h:D.flat 60 d):SeqAt.shaped d.pd=true:=by
 obtain⟨a,b⟩:=kF 60 d h
 unfold SeqAt.shaped
 rw [a,fF]
 exact decide_eq_true (by omega)
def D.eqv(a b:D):Bool:=jf a.pd b.pd
def Ke(K:Frag)(neg:Bool):R2:=fun x y H Q=> ∃M da db,oC K M H da x/\oC K M H db y/\D.flat 60 da/\D.flat 60 db/\Q (.bl (if neg then !D.eqv da db else D.eqv da db)) H
theorem Jz(hu:X.A.units+64 < cLine):ng X (cH .Eq) (Ke X.K false):=by
 intro pins s σ H x y v u Q I rx ry ⟨M,da,db,h1,h2,f1,f2,q⟩
 obtain⟨as,r1⟩:=jJ I 60 da x v f1 h1 rx
 obtain⟨bs,r2⟩:=jJ I 60 db y u f2 h2 ry
 exact eq_dataH r1 r2 (kc f1) (kc f2) hu ⟨.bl _,H,I,rfl,q⟩
theorem JA(hu:X.A.units+64 < cLine):ng X (cH .NotEq) (Ke X.K true):=by
 intro pins s σ H x y v u Q I rx ry ⟨M,da,db,h1,h2,f1,f2,q⟩
 obtain⟨as,r1⟩:=jJ I 60 da x v f1 h1 rx
 obtain⟨bs,r2⟩:=jJ I 60 db y u f2 h2 ry
 exact ne_dataH r1 r2 (kc f1) (kc f2) hu ⟨.bl _,H,I,rfl,q⟩
theorem az.eq{da db:D}(hu:X.A.units+64 < cLine)(ha:kT X ρ a da)(hb:kT X ρ b db)(f1:D.flat 60 da)(f2:D.flat 60 db):az X ρ (.Compare a [.Eq] [b] pos) (.bl (D.eqv da db)):=
 az.cmp (Jz hu) ha hb (vO b) fun M H x y Q dx dy k=>⟨M,da,db,dx,dy,f1,f2,k⟩
theorem c8.ne{da db:D}(hu:X.A.units+64 < cLine)(ha:kT X ρ a da)(hb:kT X ρ b db)(f1:D.flat 60 da)(f2:D.flat 60 db):c8 X ρ (.Compare a [.NotEq] [b] pos) (!D.eqv da db):=
 c8.cmp (JA hu) ha hb (vO b) fun M H x y Q dx dy k=>⟨M,da,db,dx,dy,f1,f2,k⟩
def inD(d:D)(ds:List D):Bool:=ds.any fun y=>D.eqv y d
def Mb(K:Frag)(neg:Bool):R2:=fun x y H Q=> ∃M da ds,oC K M H da x/\(oC K M H (.lst ds) y\/oC K M H (.tup ds) y)/\D.flat 60 da/\(∀d∈ds,D.flat 59 d)/\Q (.bl (if neg then !inD da ds else inD da ds)) H
theorem wg(d:D): ∀ds:List D,(D.pds ds).any (fun y=>jf y d.pd)=inD d ds
 | []=>rfl
 | y::ds=>by
  show(jf y.pd d.pd || (D.pds ds).any _)=(D.eqv y d || inD d ds)
  rw [wg d ds]
  rfl
theorem Eh(hu:X.A.units+65 < cLine):ng X (cH .In) (Mb X.K false):=by
 intro pins s σ H x y v u Q I rx ry ⟨M,da,ds,h1,h2,f1,f2,q⟩
 obtain⟨as,r1⟩:=jJ I 60 da x v f1 h1 rx
 obtain⟨c1,c2⟩:=kF 60 da f1
 rcases h2 with h2 | h2
 ·obtain⟨bs,r2⟩:=jJ I 60 (.lst ds) y u f2 h2 ry
  obtain⟨e1,e2⟩:=kF 60 (.lst ds) f2
  exact SeqAt.in_list_reads r2 r1 e1 c1 (by have:=Ia (dD (D.pds ds)) da.pd.depth; omega) (by rw [wg]; exact⟨.bl _,H,I,rfl,q⟩)
 ·obtain⟨bs,r2⟩:=jJ I 60 (.tup ds) y u f2 h2 ry
  obtain⟨e1,e2⟩:=kF 60 (.tup ds) f2
  exact SeqAt.in_tuple_reads r2 r1 e1 c1 (by have:=Ia (dD (D.pds ds)) da.pd.depth; omega) (by rw [wg]; exact⟨.bl _,H,I,rfl,q⟩)
theorem az.inL{da:D}(hu:X.A.units+65 < cLine)(ha:kT X ρ a da)(hb:kT X ρ b (.lst ds))(f1:D.flat 60 da)(f2: ∀d∈ds,D.flat 59 d)(hm:fE .In b=false:=by with_unfolding_all rfl):az X ρ (.Compare a [.In] [b] pos) (.bl (inD da ds)):=
 az.cmp (Eh hu) ha hb hm fun M H x y Q dx dy k=>⟨M,da,ds,dx, .inl dy,f1,f2,k⟩
theorem c8.inL{da:D}(hu:X.A.units+65 < cLine)(ha:kT X ρ a da)(hb:kT X ρ b (.lst ds))(f1:D.flat 60 da)(f2: ∀d∈ds,D.flat 59 d)(hm:fE .In b=false:=by with_unfolding_all rfl):c8 X ρ (.Compare a [.In] [b] pos) (inD da ds):=
 c8.cmp (Eh hu) ha hb hm fun M H x y Q dx dy k=>⟨M,da,ds,dx, .inl dy,f1,f2,k⟩
def D.isNon:D->Bool
 | .non=>true
 | _=>false
theorem Es{K:Frag}{M:MP}{H:Hp}{d:D}{v:V}(h:oC K M H d v):decide (v= .non)=d.isNon:=by
 cases d with
 | non=>cases (show v= .non from h); rfl
 | bl b=>cases (show v= .bl b from h); rfl
 | int b=>cases (show v= .int b from h); rfl
 | str b=>cases (show v= .str b from h); rfl
 | tup ds=>obtain⟨a,_,rfl,_⟩:=h; rfl
 | lst ds=>obtain⟨a,_,rfl,_⟩:=h; rfl
 | ins _ _ _=>obtain⟨a,_,_,rfl,_⟩:=h; rfl
 | exc _=>obtain⟨a,rfl,_⟩:=h; rfl
 | dct _ _=>obtain⟨a,_,rfl,_⟩:=h; rfl
theorem c8.notN{da:D}{j p'}(ha:kT X ρ a da):c8 X ρ (.Compare a [.IsNot] [.Constant .none j p'] pos) (!da.isNon):=
 c8.cmp GP ha az.non.r (vO _) fun M H x y Q dx dy k=>⟨dy,by rw [Es dx]; exact k⟩
def KO(K:Frag):R2:=fun x y H Q=> ∃l b xs zs,x= .ref l/\y= .ref b/\lq K H l xs/\lq K H b zs/\xs.length+zs.length<=sizeLine/\ ∀p,H p=none->Q (.ref p) (upd H p (.lst (xs ++ zs)))
theorem BQ(l b:Addr)(xs ys:Array Value)(n m:Nat)(dd de:Option Addr)(sl tl:Array (Option Value))(h0:xs.size+ys.size<=sizeLine):
  Meets (cP.«list.__add__» ⟨[.ref l, .ref b], []⟩) (fun _ R s=>s.heap.get? l=some {cls:= .type "list",dict:=dd,data:= .seq xs n,slots:=sl}/\s.heap.get? b=some {cls:= .type "list",dict:=de,data:= .seq ys m,slots:=tl}/\
   R (.ok (.ret (aq s.heap.objs.size))) {s with heap:=s.heap.push {cls:=cz "list",data:=wF (xs ++ ys)},toks:=s.toks}):=
 .of_wp fun prog w A R s h=>by
  obtain⟨hp,g,d,tk,os⟩:=s
  obtain⟨hl,hb,h⟩:=h
  have f3:=Al
  wp_walk using cq hl,cq hb
  exact⟨_,rfl,h⟩
end
def Walk(K:Frag)(J:It)(ds:List D)(gs:List (D×V)):Prop:= ∀(M:MP) (H:Hp),(∀p∈gs,Dn K M H p.1 p.2)->
 (∀i d,ds[i]? =some d->J.go i H/\ ∀x H',J.LL i H x H'->bP H H'/\Dn K M H' d x)/\J.stop ds.length H
def tI(X:Cx)(tg iter:Expr):TI:=fun σ H R=> ∀(pins:List (Addr×Obj)) (s:ai),Inv X pins σ H s->
 wpAny (model X.prog X.w) X.A (eval iter X.env) (fun v s1=>wpAny (model X.prog X.w) X.A (sT v) (L6 X pins σ tg R) X.xe s1) X.xe s
def ja(X:Cx)(ρ:eZ)(tg iter:Expr)(ds:List D):Prop:= ∀(M0:MP) (H0:Hp) (γ:List (D×V)) (α:Nat->Addr) (σ:St) (H:Hp) (R:It->Hp->Prop),Rep X.K M0 H0 γ α ρ σ H->
 (∀J H1 gs,bP H H1->(∀p∈gs,Dn X.K (MM M0 ρ α) H1 p.1 p.2)->Walk X.K J ds gs->R J H1)->tI X tg iter σ H R
section
variable {X:Cx}{M0:MP}{H0:Hp}{ρ:eZ}{P:pE}{e a b c tg iter:Expr}{es:List Expr}{d:D}{ds:List D}{pos p:Pos}{σ:St}{H:Hp}
theorem Nq:PI X tg iter (tI X tg iter):=fun pins s σ H R I h=>h pins s I
theorem _root_.L2.PI.to{t:TI}{R:It->Hp->Prop}(h:PI X tg iter t)(q:t σ H R):tI X tg iter σ H R:=fun pins s I=>h pins s σ H R I q
theorem ja.list(h:az X ρ e (.lst ds)):ja X ρ tg e ds:=fun M0 H0 γ α σ H R r k=>(Bi g8).to (h M0 H0 γ α σ H _ r fun v H1 s x=>by
 obtain⟨q,xs,rfl,sq,dn⟩:=id x
 refine⟨q,rfl,⟨xs,sq.l⟩,k (Ls X.K q) H1 [(.lst ds, .ref q)] s (fun p hp=>by rw [aK.mp hp]; exact x) fun M H2 hg=> ?_⟩
 obtain⟨q',xs',e1,sq',dn'⟩:=hg _ (aK.mpr rfl)
 cases e1
 refine⟨fun i d hi=>⟨?_,fun x H' hy=> ?_⟩,⟨xs',sq'.l,by rw [dn'.len]; exact ay _⟩⟩
 ·obtain⟨v,h1,h2⟩:=dn'.get hi
  exact⟨xs',v,sq'.l,h1⟩
 ·obtain⟨rfl,hy⟩:=hy
  obtain⟨d',h1,h2⟩:=dn'.getV (hy xs' sq'.l)
  rw [hi]at h1; cases h1
  exact⟨bP.refl _,h2⟩)
theorem ja.tup(h:az X ρ e (.tup ds)):ja X ρ tg e ds:=fun M0 H0 γ α σ H R r k=>(I_ g8).to (h M0 H0 γ α σ H _ r fun v H1 s x=>by
 obtain⟨q,xs,rfl,sq,dn⟩:=id x
 refine⟨q,rfl,⟨xs,sq⟩,k (LG X.K q) H1 [(.tup ds, .ref q)] s (fun p hp=>by rw [aK.mp hp]; exact x) fun M H2 hg=> ?_⟩
 obtain⟨q',xs',e1,sq',dn'⟩:=hg _ (aK.mpr rfl)
 cases e1
 refine⟨fun i d hi=>⟨?_,fun x H' hy=> ?_⟩,⟨xs',sq',by rw [dn'.len]; exact ay _⟩⟩
 ·obtain⟨v,h1,h2⟩:=dn'.get hi
  exact⟨xs',v,sq',h1⟩
 ·obtain⟨rfl,hy⟩:=hy
  obtain⟨d',h1,h2⟩:=dn'.getV (hy xs' sq')
  rw [hi]at h1; cases h1
  exact⟨bP.refl _,h2⟩)
def kg(lo:Int)(n:Nat):List D:=(bE n).map fun(i:Nat)=>D.int (lo+(i:Int))
theorem xD{K:Frag}(lo:Int)(n:Nat):Walk K (KG lo n) (kg lo n) []:=fun M H _=>by
 refine⟨fun i d hi=> ?_, ?_⟩
 ·unfold kg at hi
  rw [aj]at hi
  cases e:(bE n)[i]? with
  | none=>rw [e]at hi; cases hi
  | some j=>
   rw [e]at hi
   obtain⟨h1,h2⟩:=aD.mp e
   rw [bT]at h1
   rw [FV]at h2
   subst h2
   cases hi
   exact⟨h1,fun x H' ⟨e1,e2⟩=>⟨by rw [e1]; exact bP.refl _,e2⟩⟩
 ·show n<=_
  unfold kg
  rw [ae,bT]
  exact ay _
theorem ja.range{j:Int}{p1 p2:Pos}(hg:Gl X "range")(hm:X.mg "range"=none)(hs:az X ρ e (.int j))(hj: -(2 ^ 62)<=j/\j < 2 ^ 62)(hss:ax [e] X.env= [(false,eval e X.env)]:=by rfl):
  ja X ρ tg (.Call (.Name "range" p1) [e] [] p2) (kg 0 j.toNat):=fun M0 H0 γ α σ H R r k=>(BK hg hm vh hss).to ((bp.cons hs bp.nil hss) M0 H0 γ α σ H _ r fun vs H1 s x=>by
 obtain⟨v,r,rfl,e1,e2⟩:=x
 cases e1; cases e2
 exact⟨j,rfl,hj.1,hj.2,k _ H1 [] s (fun _ hp=>nomatch hp) (xD 0 _)⟩)
theorem ja.range2{i j:Int}{p1 p2:Pos}(hg:Gl X "range")(hm:X.mg "range"=none)(ha:az X ρ a (.int i))(hs:az X ρ e (.int j))(hj: -(2 ^ 62)<=i/\i < 2 ^ 62/\ -(2 ^ 62)<=j/\j < 2 ^ 62)
  (hss:ax [a,e] X.env= [(false,eval a X.env),(false,eval e X.env)]:=by rfl)(hs2:ax [e] X.env= [(false,eval e X.env)]:=by rfl):
  ja X ρ tg (.Call (.Name "range" p1) [a,e] [] p2) (kg i (j - i).toNat):=fun M0 H0 γ α σ H R r k=>(B0 hg hm vh hss hs2).to ((bp.cons ha (bp.cons hs bp.nil hs2) (by rw [hss,hs2])) M0 H0 γ α σ H _ r fun vs H1 s x=>by
 obtain⟨v,r,rfl,e1,v2,r2,rfl,e2,e3⟩:=x
 cases e1; cases e2; cases e3
 exact⟨i,j,rfl,hj,k _ H1 [] s (fun _ hp=>nomatch hp) (xD i _)⟩)
theorem Rep.ghosts{K:Frag}{γ:List (D×V)}{α:Nat->Addr}: ∀{gs:List (D×V)},Rep K M0 H0 γ α ρ σ H->(∀p∈gs,Dn K (MM M0 ρ α) H p.1 p.2)->Rep K M0 H0 (gs ++ γ) α ρ σ H:=fun{gs} r h=>
 ⟨r.same,r.old,r.inj,r.im,r.mu,fun p hp=>(bI.mp hp).elim (h p) (r.gh p),r.len⟩
theorem Rep.unghosts{K:Frag}{gs γ:List (D×V)}{α:Nat->Addr}(r:Rep K M0 H0 (gs ++ γ) α ρ σ H):Rep K M0 H0 γ α ρ σ H:=
 ⟨r.same,r.old,r.inj,r.im,r.mu,fun q hq=>r.gh q (bx _ hq),r.len⟩
theorem W1.for{body:List Stmt}(I:Nat->eZ->Prop)(hp:sS (model X.prog X.w) X.A X.env X.xe)(hc:X.calm=true)(hs:ja X ρ tg e ds)(h0:I 0 ρ)
  (ht: ∀i d ρ,ds[i]? =some d->I i ρ-> ∃ρ',yS X tg d ρ ρ'/\WS X M0 H0 body ρ' {P with N:=I (i+1),C:=I (i+1),B:=P.N})(hd: ∀ρ,I ds.length ρ->P.N ρ)
  (hf: ∀x,iO e X.env x=pure x:=by intro _; rfl):W1 X M0 H0 (.For tg e body [] pos) ρ P:=fun γ α σ H R=>by
 refine(D_ hp hc Nq MS gI hf).to (hs M0 H0 γ α σ H _ R fun J H1 gs s hg w=> ?_)
 refine⟨fun i m σ H=>m=ds.length - i/\i<=ds.length/\ ∃α ρ,Rep X.K M0 H0 (gs ++ γ) α ρ σ H/\I i ρ,⟨ds.length,by simp,bW _,α,ρ,(R.next s).ghosts hg,h0⟩, ?_⟩
 rintro i m σ2 H2 ⟨rfl,hi,α2,ρ2,R2,i2⟩
 obtain⟨w1,w2⟩:=w (MM M0 ρ2 α2) H2 fun p hp=>R2.gh p (fh _ hp)
 by_cases hlt:i < ds.length
 ·obtain⟨g1,g2⟩:=w1 i ds[i] (ah hlt)
  refine .inr ⟨g1,fun σ' H'=> ∃α ρ,Rep X.K M0 H0 (gs ++ γ) α ρ σ' H'/\I (i+1) ρ,fun σ' H' ⟨α',ρ',R',i'⟩=>⟨ds.length - (i+1),by omega,rfl,hlt,α',ρ',R',i'⟩,fun y H' hy=> ?_⟩
  obtain⟨s2,dd⟩:=g2 y H' hy
  obtain⟨ρ3,g,wb⟩:=ht i _ ρ2 (ah hlt) i2
  exact g M0 H0 _ α2 σ2 _ y _ (R2.next s2) dd fun σ' R3=>Et Rep.unghosts R3 wb
 ·have e:i=ds.length:=by omega
  subst e
  exact .inl ⟨w2,α2,ρ2,R2.unghosts,hd _ i2⟩
end
def iM(X:Cx)(N':List Str)(scope:Scope)(cl:List (Str×Addr))(C:Addr)(s₀:ai)(H₀:Hp)(fp:List Addr)(pins:List (Addr×Obj)):Cx:=
 {X with N:=N',s₀:=s₀,H₀:=H₀,env:=compEnvC scope cl C X.env,outer:=X.stack,stack:=X.stack,ex:=fp,fn:=fun _=>false,pn:=X.pn ++ pins,xe:=fun _ _=>False}
structure dE(X:Cx)(N':List Str)(js:List Nat)(scope:Scope)(x:Str)(cl:List (Str×Addr)):Prop where
 w8:pT scope X.env=pure cl
 cell: ∀y∈scope.names,y.2≠ .cell
 kind:scope.kind= .function
 names: ∀y∈scope.names,y.2= .local->scope.names.lookup y.1=some .local
 own:scope.names.lookup x=some .local
 hN: ∃r,N'=x::r/\r.length=js.length/\ ∀(i:Nat) (y:Str) (j:Nat),r[i]? =some y->js[i]? =some j->X.N[j]? =some y/\X.env.scope.names.lookup y=some .cell/\(jl scope X.env).names.lookup y=some .cell/\ ∀c,X.env.cells.lookup y=some c->cl.lookup y=some c
 sub: ∀y c,cl.lookup y=some c->X.env.cells.lookup y=some c
 has: ∀y,((jl scope X.env).names.lookup y=some .cell\/(jl scope X.env).names.lookup y=some .free)-> ∃c,cl.lookup y=some c
section
variable {X:Cx}{pins:List (Addr×Obj)}{σ:St}{H H':Hp}{s:ai}{N':List Str}{js:List Nat}{scope:Scope}{x:Str}{cl:List (Str×Addr)}{px pos:Pos}{elt iter:Expr}
theorem mQ(I:Inv X pins σ H s){b:Addr}(h1:b≠X.env.locals)(h2:b∉X.fs):b∉yR X.stack:=fun z=>by
 rcases aO.mp (I.stkSub b z)with e | e
 ·exact h1 e
 ·exact h2 e
theorem dE.cx(ok:dE X N' js scope x cl)(I:Inv X pins σ H s){fp:List Addr}(hf: ∀b∈fp,g_ X pins H b)(ho: ∀b∈fp,b < s.heap.objs.size):
  (iM X N' scope cl s.heap.objs.size s H fp pins).Ok where
 mod:=I.ok.mod
 kind:=ok.kind
 glob:=I.ok.glob
 blt:=I.ok.blt
 above:=ay _
 inj:=fun y z c h1 h2=>I.ok.inj y z c (ok.sub y c h1) (ok.sub z c h2)
 has:=fun y h=>ok.has y h
 JP:=fun y c h _=>absurd (show false=true from h) aC
 hd:=I.ok.hd
 frames:=I.ok.frames
 ux:= .inl rfl
 Lj:=fun b hb=>⟨aF (ho b hb),fun y c e=>(hf b hb).2.2.2.2.1 y c (ok.sub y c e)⟩
 bs:=I.bs
 zl:=bj I.ok.zl I.sz
 tM:=fun b o e hb=>by
  rcases(hf b hb).2.2.2.1 with z | z
  ·exact I.ok.tM b o e z
  ·exact absurd (aZ (au e) (bj I.ok.zl z)) (df _)
 Cg:=fun b hb=>mQ I (hf b hb).2.1 (hf b hb).2.2.1
 oG:=I.stack
 Hf:=I.stkFree
def K6(σ:St)(js:List Nat):St:=none::js.map fun j=>(σ[j]?).join
theorem dE.inv(ok:dE X N' js scope x cl)(I:Inv X pins σ H s){fp:List Addr}(hf: ∀b∈fp,g_ X pins H b)(ho: ∀b∈fp,b < s.heap.objs.size){h₁:Heap}{tk:Nat}{m:Str->Option Value}
  (hn:h₁.Ns s.heap.objs.size m)(k: ∀b o,s.heap.get? b=some o->h₁.get? b=some o):Inv (iM X N' scope cl s.heap.objs.size s H fp pins) [] (K6 σ js) H {s with heap:=h₁,toks:=tk}:=by
 obtain⟨r,rfl,hrl,hr⟩:=ok.hN
 refine⟨ok.cx I hf ho,rfl,I.bare,Un.kept k,⟨m,hn,fun i y v h1 h2 _=> ?_⟩,fun y c e=> ?_,I.dW.fresh (ay _),fun y c e=>I.mh y c (ok.sub y c e),fun p hp=> ?_,I.dW.kept k, ?_⟩
 ·cases i with
  | zero=>have h2':(none:Option V)=some v:=aA h2; cases h2'
  | succ i=>
   have h1':r[i]? =some y:=h1
   have h2':(js.map fun j=>(σ[j]?).join)[i]? =some (some v):=h2
   rw [aj]at h2'
   cases ej:js[i]? with
   | none=>rw [ej]at h2'; cases h2'
   | some j=>
    rw [ej]at h2'
    have h3:(σ[j]?).join=some v:=aA h2'
    have h4:σ[j]? =some (some v):=by
     cases e:σ[j]? with
     | none=>rw [e]at h3; cases h3
     | some w=>rw [e]at h3; exact congrArg some h3
    obtain⟨q1,q2,q3,q4⟩:=hr i y j h1' ej
    obtain⟨m0,_,hl⟩:=I.loc
    obtain⟨u,ru,lk⟩:=hl j y v q1 h4 (.inr (.inl q2))
    refine⟨u,ru, ?_⟩
    rcases lk with⟨z,_⟩ | ⟨_,c,e1,o,e2,e3⟩
    ·have z':X.env.scope.names.lookup y=some .local:=z
     rw [q2]at z'; cases z'
    ·exact .inr ⟨.inl q3,c,q4 c e1,o,k _ _ e2,e3⟩
 ·obtain⟨v,o,e1,e2⟩:=I.cell y c (ok.sub y c e)
  exact⟨v,o,k _ _ e1,e2⟩
 ·have hp':p∈X.pn ++ pins:=by
   have z:p∈(X.pn ++ pins) ++ []:=hp
   rwa [bJ]at z
  obtain⟨e,n,ne,nf,d⟩:=I.pin p hp'
  exact⟨k _ _ e,n,aF (au e),mQ I ne nf,d⟩
 ·show(none::js.map fun j=>(σ[j]?).join).length=(x::r).length
  rw [aH,ae,aH,hrl]
theorem dE.out(ok:dE X N' js scope x cl)(I:Inv X pins σ H s){fp:List Addr}(hf: ∀b∈fp,g_ X pins H b){σ':St}{s':ai}(J:Inv (iM X N' scope cl s.heap.objs.size s H fp pins) [] σ' H' s'):
  Inv X pins σ H' s'/\g_ X pins H' s.heap.objs.size:=by
 have I':Inv X pins σ H' s':=I.call' (ch:=fp) J.os J.base J.dW J.bare fun b hb=>⟨(hf b hb).2.2.2.1,(hf b hb).2.1,(hf b hb).2.2.2.2.1,(hf b hb).2.2.2.2.2⟩
 exact⟨I',I.fpOk (ay _) J.free⟩
end
section
variable {prog:av}{w:World}{A:bC}{R:Result->ai->Prop}{s:ai}
abbrev Fi:Value->ai->Prop:=fun _ _=>False
theorem ur{elt target iter:Expr}{scope:Scope}{pos:Pos}{it acc:Value}{env:Env}(I:Nat->ai->Prop)
  (turn: ∀n s,I n s->wpAny (model prog w) A (gF it) (fun r s₁=>match r with
   | none=>R (.ok .next) s₁
   | some v=>wpAny (model prog w) A (jL target it v) (fun _ s₂=>wpAny (model prog w) A (ko target env v) (fun _ s₃=>wpAny (model prog w) A (eval elt env) (fun y s₄=>
     wpAny (model prog w) A (call (.builtin "list.append") [acc,y]) (fun _ s₅=> ∃m,m < n/\I m s₅) Fi s₄) Fi s₃) Fi s₂) Fi s₁) Fi s)(n:Nat)(h:I n s):
  f9 (model prog w) A (.compLoop (.ListComp elt [⟨target,iter, [],0⟩] scope pos) 0 it acc env) R s:=by
 refine codeAny_loop rfl I (fun n s hI=> ?_) n h
 show wpAny _ A ((compTurn (.ListComp elt [⟨target,iter, [],0⟩] scope pos) 0 it acc env).onRaise (fun x=>do noteFrame x env; theTreesLotGoes x)) _ _ s
 refine wpAny_noted ?_
 rw [compTurn_list]
 refine aa (o5 (aa (cF (turn n s hI) (fun r s₁ h₁=> ?_) fun _ _ z=>z.elim)))
 cases r with
 | none=>exact ag h₁
 | some v=>
  refine aa (cF h₁ (fun _ s₂ h₂=> ?_) fun _ _ z=>z.elim)
  refine aa (cF h₂ (fun _ s₃ h₃=>aa (ag ?_)) fun _ _ z=>z.elim)
  exact aa (aa (cF h₃ (fun y s₄ h₄=>aa (cF h₄ (fun _ s₅ h₅=>ag (ag ⟨rfl,h₅⟩)) fun _ _ z=>z.elim)) fun _ _ z=>z.elim))
end
structure J_(K:Frag)(M:MP)(H1:Hp)(es:List D)(i:Nat)(D0:Addr)(ys:List V)(H:Hp):Prop where
 same:bP H1 H
 at_:H D0=some (.lst ys)
 dn:cE K (fun a=>M a\/a=D0) H (es.take i) ys
section
variable {X:Cx}{pins:List (Addr×Obj)}{σ:St}{H1:Hp}{s₂:ai}{N':List Str}{js:List Nat}{scope:Scope}{x:Str}{cl:List (Str×Addr)}{px pos:Pos}{elt iter:Expr}{J:It}{fp:List Addr}{it:Addr}{tn:Nat->Heap->Prop}
 {ds es cs:List D}{gs:List (D×V)}{M:MP}{E:Value->ai->Prop}{RR:Value->Addr->Result->ai->Prop}
def ua(d:D)(cs:List D):eZ:= .im d::cs.map .im
def EU(K:Frag)(M:MP)(H:Hp)(σ:St)(js:List Nat)(cs:List D):Prop:=js.length=cs.length/\ ∀(k j:Nat) (c:D),js[k]? =some j->cs[k]? =some c-> ∃v,σ[j]? =some (some v)/\Dn K M H c v
theorem qT(ok:dE X N' js scope x cl)(hc:X.calm=true)(hnd:N'.Nodup)(I:Inv X pins σ H1 s₂)(T:Turn X.prog X.w X.K (.Name x px) J fp it tn)(st:tn 0 s₂.heap)(hf: ∀b∈fp,g_ X pins H1 b)
  (hg: ∀p∈gs,Dn X.K M H1 p.1 p.2)(w:Walk X.K J ds gs)(hl:es.length=ds.length)(hsz:ds.length<=1000000)(hcap:EU X.K M H1 σ js cs)(hM: ∀a,M a->H1 a≠none)
  (helt: ∀(C:Addr) (s₀:ai) (H₀:Hp) (i:Nat) (d e:D),ds[i]? =some d->es[i]? =some e->az (iM X N' scope cl C s₀ H₀ fp pins) (ua d cs) elt e)
  (hRR: ∀(D0 C:Addr) (m:Str->Option Value) (s1:ai) (H:Hp) (ys:List V),Inv X pins σ H s1->s1.heap.Ns C m->g_ X pins H C->H1 D0=none->bP H1 H->H D0=some (.lst ys)->cE X.K (fun a=>M a\/a=D0) H es ys->RR (.ref D0) C (.ok .next) s1):
  wpAny (model X.prog X.w) X.A (u4 []) (fun acc s₃=>wpAny (model X.prog X.w) X.A (newFunctionEnv scope X.env.globals cl [] X.env.qual none .none (some X.env)) (fun cenv s₄=>
   f9 (model X.prog X.w) X.A (.compStart (.ListComp elt [⟨.Name x px,iter, [],0⟩] scope pos) 0 (.ref it) acc {cenv with scope:=jl scope X.env}) (RR acc cenv.locals) s₄) E s₃) E s₂:=by
 refine a_ (wpAny_newFunctionEnv ok.cell (by intro y hy; simp at hy) (fun h₁ hns₁ hsb₁=> ?_) ok.kind)
 dsimp only at hns₁ hsb₁ ⊢
 have hD:H1 s₂.heap.objs.size=none:=I.fresh
 have I3:Inv X pins σ (upd H1 s₂.heap.objs.size (.lst [])) {s₂ with heap:=s₂.heap.push {cls:= .type "list",data:= .seq ([]:List Value).toArray}}:=I.lnew (its:= []) (t':=s₂.toks) (ys:= []) .nil (bW _)
 have obj2: ∀b∈fp, ∃o,s₂.heap.get? b=some o:=fun b hb=>let⟨o,e,_⟩:=T.obj _ _ st b hb; ⟨o,e⟩
 have lt2: ∀b∈fp,b < s₂.heap.objs.size:=fun b hb=>let⟨o,e⟩:=obj2 b hb; au e
 have hf3: ∀b∈fp,g_ X pins (upd H1 s₂.heap.objs.size (.lst [])) b:=fun b hb=>⟨by rw [cu (aF (lt2 b hb))]; exact(hf b hb).1,(hf b hb).2⟩
 generalize hH2:s₂.heap.push {cls:= .type "list",data:= .seq ([]:List Value).toArray}=H2 at I3 hns₁ hsb₁ ⊢
 have sz3:H2.objs.size=s₂.heap.objs.size+1:=by rw [<-hH2,bX]
 have lt3: ∀b∈fp,b < H2.objs.size:=fun b hb=>by rw [sz3]; exact cB (lt2 b hb)
 have k1: ∀b o,H2.get? b=some o->h₁.get? b=some o:=fun b o e=>hsb₁.extBut b o (aF (au e)) (af _ e)
 have k2: ∀b o,s₂.heap.get? b=some o->h₁.get? b=some o:=fun b o e=>k1 b o (by rw [<-hH2]; exact af _ e)
 have I4:=ok.inv (tk:=s₂.toks+([]:List (Str×Value)).length) I3 hf3 lt3 hns₁ k1
 have st4:tn 0 h₁:=T.keep _ _ _ st fun b hb o e=>k2 b o e
 generalize hX:iM X N' scope cl H2.objs.size {s₂ with heap:=H2} (upd H1 s₂.heap.objs.size (.lst [])) fp pins=X' at I4
 have hfp: ∀(H:Hp),(∀b∈fp,H b=none)-> ∀b∈fp,g_ X' [] H b:=fun H hn b hb=>by
  subst hX
  refine⟨hn b hb,aF (lt3 b hb),mQ I3 (hf3 b hb).2.1 (hf3 b hb).2.2.1, .inl hb,fun y c e=>(hf3 b hb).2.2.2.2.1 y c (ok.sub y c e),fun p hp=> ?_⟩
  have z:p∈(X.pn ++ pins) ++ []:=hp
  rw [bJ]at z
  exact(hf3 b hb).2.2.2.2.2 p z
 have out: ∀(H:Hp) (s1:ai) (σ':St),Inv X' [] σ' H s1->Inv X pins σ H s1/\g_ X pins H H2.objs.size:=fun H s1 σ' J=>by
  subst hX
  exact ok.out I3 hf3 J
 have elt': ∀(i:Nat) (d e:D),ds[i]? =some d->es[i]? =some e->az X' (ua d cs) elt e:=fun i d e h1 h2=>by
  subst hX
  exact helt _ _ _ i d e h1 h2
 have env':X'.env=compEnvC scope cl H2.objs.size X.env:=by rw [<-hX]; rfl
 have N0:X'.N=N':=by rw [<-hX]; rfl
 have p1:X'.prog=X.prog:=by rw [<-hX]; rfl
 have p2:X'.w=X.w:=by rw [<-hX]; rfl
 have p3:X'.K=X.K:=by rw [<-hX]; rfl
 have p4:X'.calm=true:=by rw [<-hX]; exact hc
 have p5:X'.A=X.A:=by rw [<-hX]; rfl
 have p6:X'.xe=Fi:=by rw [<-hX]; rfl
 clear hX
 obtain⟨r0,er0,hrl,hr⟩:=ok.hN
 have hN0:X'.N[0]? =some x:=by rw [N0,er0]; rfl
 have hLoc:X'.env.scope.names.lookup x=some .local:=by rw [env']; exact CW ok.own
 have hMD: ∀a,(M a\/a=s₂.heap.objs.size)-> ∀H,bP H1 H->(∃ys,H s₂.heap.objs.size=some (.lst ys))->H a≠none:=fun a ha H sm hD' z=>by
  rcases ha with ha | rfl
  ·exact hM a ha (sm.free z)
  ·obtain⟨ys,e⟩:=hD'
   rw [z]at e; cases e
 have loop: ∀s₃:ai,s₃={s₂ with heap:=h₁,toks:=s₂.toks+([]:List (Str×Value)).length}->
   f9 (model X.prog X.w) X.A (.compLoop (.ListComp elt [⟨.Name x px,iter, [],0⟩] scope pos) 0 (.ref it) (.ref s₂.heap.objs.size) (compEnvC scope cl H2.objs.size X.env)) (RR (.ref s₂.heap.objs.size) H2.objs.size) s₃:=by
  intro s₃ es3
  refine ur (fun n s'=> ∃(i:Nat) (ys:List V) (H:Hp) (σ':St),n=ds.length - i/\i<=ds.length/\Inv X' [] σ' H s'/\(∃ov,σ'=ov::(K6 σ js).tail)/\tn i s'.heap/\(∀b∈fp,H b=none)/\J_ X.K M H1 es i s₂.heap.objs.size ys H) ?_ ds.length
   ⟨0, [],_,_,rfl,bW _,by rw [es3]; exact I4,⟨none,rfl⟩,by rw [es3]; exact st4,fun b hb=>(hf3 b hb).1,bw hD,bG,by rw [iT]; exact rfl⟩
  rintro n s' ⟨i,ys,H,σ',rfl,hi,Iv,⟨ov,eσ⟩,sti,fri,ci⟩
  have gsH: ∀p∈gs,Dn X.K (fun a=>M a\/a=s₂.heap.objs.size) H p.1 p.2:=fun p hp=>((hg p hp).re fun a m=>m.elim .inl fun z=> .inr (by rw [z]; exact hD)).same ci.same
  obtain⟨w1,w2⟩:=w _ H gsH
  have item:=T.item X' p1 p2 p3 p4 i [] s' σ' H Fi Iv (hfp H fri) sti
  have done:=T.done X' p1 p2 p3 p4 i [] s' σ' H Fi Iv (hfp H fri) sti
  rw [p5]at item done
  by_cases hlt:i < ds.length
  ·obtain⟨g1,g2⟩:=w1 i ds[i] (ah hlt)
   refine eQ (item g1) fun r s4 ⟨u,hr',h4⟩=> ?_
   subst hr'
   refine eQ h4 fun _ s5 ⟨y,H5,I5,r5,y5,st5,fr5⟩=> ?_
   obtain⟨sm5,d5⟩:=g2 y H5 y5
   have I5':=I5.pinned (hfp H5 fr5) (T.obj _ _ st5)
   have asg:=lA (X:=X') (pos:=px) (i:=0) (by rw [N0]; exact hnd) hN0 (.inl hLoc) (.inr hLoc) _ s5 σ' H5 y u (fun σ6 H6=>σ6=σ'.set 0 (some y)/\H6=H5) I5' r5 ⟨rfl,rfl⟩
   rw [p1,p2,p5,p6,env']at asg
   refine eQ asg fun _ s6 ⟨σ6,H6,I6,e6,e6'⟩=> ?_
   subst e6 e6'
   have ei:es[i]? =some (es[i]'(by rw [hl]; exact hlt)):=ah _
   have ev:=elt' i _ _ (ah hlt) ei
   have sm15:bP H1 H6:=ci.same.trans sm5
   have hD5:H6 s₂.heap.objs.size=some (.lst ys):=sm5 _ _ ci.at_
   have Rp:Rep X'.K (fun a=>M a\/a=s₂.heap.objs.size) H6 [] (fun _=>0) (ua ds[i] cs) (σ'.set 0 (some y)) H6:=by
    refine⟨bP.refl _,fun a ha=>hMD a ha H6 sm15 ⟨ys,hD5⟩,fun k l fs gs' e1=> ?_,fun k d0 e1=> ?_,fun k fs e1=> ?_,(fun p hp=>by cases hp), ?_⟩
    ·exfalso
     unfold ua at e1
     cases k with
     | zero=>cases aA e1
     | succ k=>
      rw [bF,aj]at e1
      cases z:cs[k]? with
      | none=>rw [z]at e1; cases e1
      | some c=>rw [z]at e1; cases aA e1
    ·have mmM: ∀a,MM (fun a=>M a\/a=s₂.heap.objs.size) (ua ds[i] cs) (fun _=>0) a->(M a\/a=s₂.heap.objs.size):=fun a ha=>by
      rcases ha with ha | ⟨k',fs,e2,_⟩
      ·exact ha
      ·exfalso
       unfold ua at e2
       cases k' with
       | zero=>cases aA e2
       | succ k'=>
        rw [bF,aj]at e2
        cases z:cs[k']? with
        | none=>rw [z]at e2; cases e2
        | some c=>rw [z]at e2; cases aA e2
     subst eσ
     unfold ua at e1
     cases k with
     | zero=>
      have z:Sl.im ds[i]=Sl.im d0:=aA e1
      cases z
      refine⟨y,rfl, ?_⟩
      rw [p3]
      exact d5.less mmM
     | succ k=>
      rw [bF,aj]at e1
      cases z:cs[k]? with
      | none=>rw [z]at e1; cases e1
      | some c=>
       rw [z]at e1
       have z':Sl.im c=Sl.im d0:=aA e1
       have hk:k < js.length:=by rw [hcap.1]; exact(aD.mp z).1
       obtain⟨v,hv,dv⟩:=hcap.2 k js[k] c (ah hk) z
       cases z'
       refine⟨v, ?_, ?_⟩
       ·show(js.map fun j=>(σ[j]?).join)[k]? =some (some v)
        rw [aj,ah hk]
        show some (σ[js[k]]?).join=_
        rw [hv]
        rfl
       ·rw [p3]
        exact(((dv.re fun a m=>m.elim .inl fun q=> .inr (by rw [q]; exact hD)).same sm15)).less mmM
    ·exfalso
     unfold ua at e1
     cases k with
     | zero=>cases aA e1
     | succ k=>
      rw [bF,aj]at e1
      cases z:cs[k]? with
      | none=>rw [z]at e1; cases e1
      | some c=>rw [z]at e1; cases aA e1
    ·subst eσ
     rw [bo]
     show(js.map fun j=>(σ[j]?).join).length+1=(cs.map Sl.im).length+1
     rw [ae,ae,hcap.1]
   have evw:=ev _ H6 [] (fun _=>0) _ H6 (fun v H'=>bP H6 H'/\Dn X.K (fun a=>M a\/a=s₂.heap.objs.size) H' (es[i]'(by rw [hl]; exact hlt)) v) Rp (fun v H' sm dn=>⟨sm,by
    rw [p3]at dn
    exact dn.less fun a ha=> .inl ha⟩) _ s6 I6
   rw [p1,p2,p5,p6,env']at evw
   refine eQ evw fun yv s7 ⟨v,H7,I7,r7,sm7,dn7⟩=> ?_
   have ap:=kM (X:=X') _ s7 _ H7 (.ref s₂.heap.objs.size) [v] (.ref s₂.heap.objs.size) [yv] (fun _ H8=>H8=upd H7 s₂.heap.objs.size (.lst (ys ++ [v]))) I7 rfl (.cons r7 .nil)
    ⟨_,ys,v,rfl,rfl,sm7 _ _ hD5,by rw [ci.dn.len,br]; exact iB (bj (IL _ _) (by omega)) (by decide:(1000000:Nat) < sizeLine),rfl⟩
   rw [p1,p2,p5,p6]at ap
   refine eQ ap fun _ s8 ⟨_,H8,I8,_,e8⟩=> ?_
   subst e8
   refine⟨ds.length - (i+1),by omega,i+1,ys ++ [v],_,_,rfl,hlt,I8.unpinned,⟨some y,by rw [eσ]; rfl⟩,
    T.keep _ _ _ st5 fun b hb o e=>(I8.pin (b,o) (bx _ (bx _ (iJ hb e)))).1,fun b hb=> ?_, ?_⟩
   ·obtain⟨o,e,_⟩:=T.obj _ _ st5 b hb
    exact(I8.pin (b,o) (bx _ (bx _ (iJ hb e)))).2.1
   ·refine⟨gU (sm15.trans sm7) hD,bG, ?_⟩
    have kp:nJ (fun a=>M a\/a=s₂.heap.objs.size) H7 (upd H7 s₂.heap.objs.size (.lst (ys ++ [v]))):=fun b o e n=>by
     by_cases hb:b=s₂.heap.objs.size
     ·subst hb
      rw [sm7 _ _ hD5]at e; cases e
      exact absurd (.inr rfl) (n _ rfl)
     ·rw [cu hb]; exact e
    rw [ft,ei]
    exact(cE.app (ci.dn.same (sm5.trans sm7)) (cE.one dn7)).keep kp
  ·have e:i=ds.length:=by omega
   subst e
   refine eQ (done w2) fun r s4 ⟨hr',I5⟩=> ?_
   subst hr'
   obtain⟨o1,o2⟩:=out H s4 σ' I5
   obtain⟨m,hn,_⟩:=I5.loc
   rw [env']at hn
   refine hRR _ _ m s4 H ys o1 hn o2 hD ci.same ci.at_ ?_
   have:=ci.dn
   rw [<-hl,eO]at this
   exact this
 exact codeAny_compStart_list (loop _ rfl) (T.self X.A 0 _ _ _ st4 (loop _ rfl))
def xI(ρ:eZ)(js:List Nat)(cs:List D):Prop:=js.length=cs.length/\ ∀(k j:Nat) (c:D),js[k]? =some j->cs[k]? =some c->ρ[j]? =some (.im c)
theorem xI.ok{K:Frag}{M0:MP}{H0 H H':Hp}{γ:List (D×V)}{α:Nat->Addr}{ρ:eZ}{σ:St}(h:xI ρ js cs)(R:Rep K M0 H0 γ α ρ σ H)(s:bP H H'):EU K (MM M0 ρ α) H' σ js cs:=
 ⟨h.1,fun k j c e1 e2=>let⟨v,q1,q2⟩:=R.im j c (h.2 k j c e1 e2); ⟨v,q1,q2.same s⟩⟩
theorem jE{K:Frag}{M0:MP}{H0 H H':Hp}{γ:List (D×V)}{α:Nat->Addr}{ρ:eZ}{σ:St}(R:Rep K M0 H0 γ α ρ σ H)(s:bP H H'): ∀a,MM M0 ρ α a->H' a≠none:=fun a ha z=>by
 have z':=s.free z
 rcases ha with ha | ⟨i,ds,e,rfl⟩
 ·exact R.old a ha (R.same.free z')
 ·obtain⟨_,_,xs,e3,_⟩:=R.mu i ds e
  rw [z']at e3; cases e3
theorem ef.comp{ρ:eZ}(ok:dE X N' js scope x cl)(hc:X.calm=true)(hnd:N'.Nodup)(hs:ja X ρ (.Name x px) iter ds)(hcs:xI ρ js cs)(hl:es.length=ds.length)(hsz:ds.length<=1000000)
  (helt: ∀(C:Addr) (s₀:ai) (H₀:Hp) (fp:List Addr) (pins:List (Addr×Obj)) (i:Nat) (d e:D),ds[i]? =some d->es[i]? =some e->az (iM X N' scope cl C s₀ H₀ fp pins) (ua d cs) elt e)
  (hfi: ∀v,iO iter X.env v=pure v:=by intro _; rfl):ef X ρ (.ListComp elt [⟨.Name x px,iter, [],0⟩] scope pos) es:=fun M0 H0 γ α σ H Q R k pins s I=>by
 rw [eval_ListComp]
 refine yK (use:=none) rfl hfi ok.w8 ok.kind ok.names ?_
 have h:=hs M0 H0 γ α σ H (fun J H1=> ∃gs,bP H H1/\(∀p∈gs,Dn X.K (MM M0 ρ α) H1 p.1 p.2)/\Walk X.K J ds gs) R (fun J H1 gs s g w=>⟨gs,s,g,w⟩) pins s I
 refine eQ h fun v s1 h1=>eQ h1 fun itv s2 ⟨it,fp,tn,J,H1,e,I2,T,st,f,gs,sm,hg,w⟩=> ?_
 subst e
 refine qT ok hc hnd I2 T st f hg w hl hsz (hcs.ok R sm) (jE R sm) (fun C s₀ H₀ i d e=>helt C s₀ H₀ fp pins i d e) fun D0 C m s1 H2 ys I1 hn fo hD sm1 ha dn=> ?_
 exact⟨m,hn,fun h' sb=>⟨.ref D0,H2,I1.turned (t':=s1.toks) (fun b o hb e=>sb.extBut b o hb e) fo.1 fo.2.1 fo.2.2.2.1 fo.2.2.2.2.1 fo.2.2.2.2.2,rfl,k D0 ys H1 H2 sm hD sm1 ha dn⟩⟩
theorem W1.comp{ρ:eZ}{M0:MP}{H0:Hp}{P:pE}{i:Nat}{y:Str}{py spos:Pos}(ok:dE X N' js scope x cl)(hc:X.calm=true)(hnd:N'.Nodup)(hs:ja X ρ (.Name x px) iter ds)(hcs:xI ρ js cs)(hl:es.length=ds.length)(hsz:ds.length<=1000000)
  (helt: ∀(C:Addr) (s₀:ai) (H₀:Hp) (fp:List Addr) (pins:List (Addr×Obj)) (i:Nat) (d e:D),ds[i]? =some d->es[i]? =some e->az (iM X N' scope cl C s₀ H₀ fp pins) (ua d cs) elt e)
  (hN:X.N.Nodup)(hi:X.N[i]? =some y)(hy:X.env.scope.names.lookup y=some .local)(hlt:i < ρ.length)(q:P.N (ρ.set i (.mu es)))
  (hsw:cO (.ListComp elt [⟨.Name x px,iter, [],0⟩] scope pos) (some (.Name y py)) spos.line X.env=pure true:=by rfl)(hfi: ∀v,iO iter X.env v=pure v:=by intro _; rfl):
  W1 X M0 H0 (.Assign [.Name y py] (.ListComp elt [⟨.Name x px,iter, [],0⟩] scope pos) spos) ρ P:=fun γ α σ H R pins s I=>by
 rw [exec_Assign_Name_used _ _ _ _ hsw]
 refine aa (o5 (aa ?_))
 show wpAny _ X.A (do let _<-comprehension (.ListComp elt [⟨.Name x px,iter, [],0⟩] scope pos) scope X.env _ (u4 []) false (eval iter X.env) (some (ko (.Name y py) X.env))) _ _ s
 refine aa (cF (yK (use:=some (ko (.Name y py) X.env)) (Q:=fun _ s'=>SP X pins (ends X.K M0 H0 γ P) .next s') rfl hfi ok.w8 ok.kind ok.names ?_) (fun _ s' hq=>ag (ag hq)) fun _ _ e=>e)
 have h:=hs M0 H0 γ α σ H (fun J H1=> ∃gs,bP H H1/\(∀p∈gs,Dn X.K (MM M0 ρ α) H1 p.1 p.2)/\Walk X.K J ds gs) R (fun J H1 gs s g w=>⟨gs,s,g,w⟩) pins s I
 refine eQ h fun v s1 h1=>eQ h1 fun itv s2 ⟨it,fp,tn,J,H1,e,I2,T,st,f,gs,sm,hg,w⟩=> ?_
 subst e
 refine qT ok hc hnd I2 T st f hg w hl hsz (hcs.ok R sm) (jE R sm) (fun C s₀ H₀ i d e=>helt C s₀ H₀ fp pins i d e) fun D0 C m s1 H2 ys I1 hn fo hD sm1 ha dn=> ?_
 show wpAny _ _ (ko (.Name y py) X.env (.ref D0)) _ _ s1
 refine Gb (pj (v:= .ref D0) I1 hN hi (.inl hy) rfl (fun s' I' ⟨a,sb,ea⟩=> ?_) (.inr hy))
 have hCa:C≠a:=by
  rcases ea with rfl | ea
  ·exact fo.2.1
  ·exact fun z=>fo.2.2.2.2.1 y a ea z.symm
 refine⟨m,hn.at' fun o e=>sb.extBut C o hCa e,fun h' sb'=>⟨_,H2,I'.turned (t':=s'.toks) (fun b o hb e=>sb'.extBut b o hb e) fo.1 fo.2.1 fo.2.2.2.1 fo.2.2.2.2.1 fo.2.2.2.2.2, ?_⟩⟩
 exact⟨_,_,(R.next sm).set_mu hlt hD sm1 ha dn,q⟩
end
def nA(K:Frag){ι:Type}(args:ι->List D)(pre:ι->Prop)(res:ι->Except Addr D):Sp:=fun vs H Q E=>
 ∃(i:ι) (M0:MP),(∀a,M0 a->H a≠none)/\cE K M0 H (args i) vs/\pre i/\(∀d,res i= .ok d-> ∀v H',bP H H'->Dn K M0 H' d v->Q v H')/\(∀C,res i= .error C-> ∀a H',bP H H'->E (.ref C) a H')
structure jU(P:av)(w:World)(K:Frag)(mg:Str->Option Value)(base:Heap)(CX:gM)(k:Nat)(x:Str){ι:Type}(args:ι->List D)(pre:ι->Prop)(res:ι->Except Addr D):Prop where
 ex: ∃(f:Addr) (fd:bg) (ps:List Str),lN P w K mg base CX k f fd ps (nA K args pre res)/\mg x=some (.ref f)/\fS K (.ref f)=true/\Binds K fd ps []
def D.noL:Nat->D->Prop
 | _, .non=>True
 | _, .bl _=>True
 | _, .int _=>True
 | _, .str _=>True
 | n+1, .tup ds=> ∀d∈ds,D.noL n d
 | _,_=>False
theorem Dn.noL{K:Frag}{M M':MP}{H:Hp}: ∀(n:Nat) {d:D} {v:V},D.noL n d->Dn K M H d v->Dn K M' H d v:=by
 intro n
 induction n with
 | zero=>intro d v hf h; cases d <;> first | exact h | exact hf.elim
 | succ n ih=>
  intro d v hf h
  cases d with
  | tup ds=>
   obtain⟨a,xs,e,s,r⟩:=h
   refine⟨a,xs,e,s, ?_⟩
   clear s e
   induction ds generalizing xs with
   | nil=>exact r
   | cons d ds hi=>
    obtain⟨v,t,e,h1,h2⟩:=r
    exact⟨v,t,e,ih (hf d (.head _)) h1,hi (fun x hx=>hf x (.tail _ hx)) t h2⟩
  | non=>exact h
  | bl _=>exact h
  | int _=>exact h
  | str _=>exact h
  | _=>exact hf.elim
section
variable {X:Cx}{ρ:eZ}{e:Expr}{es:List Expr}{d:D}{pos p:Pos}{CX:gM}{k:Nat}{x:Str}{ι:Type}{args:ι->List D}{pre:ι->Prop}{res:ι->Except Addr D}
theorem az.call(F:jU X.prog X.w X.K X.mg X.base CX k x args pre res)(hr:fM k X.A)(hx:Passes CX X E0)(hg:Gl X x)(i:ι)(ha:bp X ρ (e::es) (args i))(hp:pre i)(hres:res i= .ok d)(hdb:(x==("__debug__":Str))=false:=by decide)
  (he:ax (e::es) X.env=(false,eval e X.env)::ax es X.env:=by rfl)(hpl:(e_ pos (ax es X.env)).any (·.1)=false:=by rfl):az X ρ (.Call (.Name x p) (e::es) [] pos) d:=fun M0 H0 γ α σ H Q R kk=>by
 obtain⟨f,fd,ps,F,hm,hk,hb⟩:=F.ex
 refine(vQ F hr hg hm hk hb .nil hx vh hdb he hpl).to (ha M0 H0 γ α σ H _ R fun vs H1 s1 d1=> ?_)
 show nA X.K args pre res (vs ++ []) H1 Q E0
 rw [bJ]
 exact⟨i,MM M0 ρ α,jE R s1,d1,hp,fun d' e v H2 s2 dn=>by rw [hres]at e; cases e; exact kk v H2 (s1.trans s2) dn,fun C e=>by rw [hres]at e; cases e⟩
theorem xB.noM{K:Frag}{M:MP}{H:Hp}: ∀{ds:List D} {vs:List V},xB K M H ds vs->cE K JW H ds vs
 | [],_,h=>h
 | d::ds,_,⟨v,r,e,h1,h2⟩=>⟨v,r,e,by
   cases d with
   | lst es=>
    obtain⟨a,xs,e1,s,q⟩:=h1
    refine⟨a,xs,e1, ?_,q.less fun _ z=>z.elim⟩
    rcases s with s | s
    ·exact .inl ⟨s,fun z=>z⟩
    ·exact .inr s
   | _=>exact Dn.noM (M:=M) h1,xB.noM h2⟩
theorem az.callR(F:jU X.prog X.w X.K X.mg X.base CX k x args pre res)(hr:fM k X.A)(hx:Passes CX X E0)(hg:Gl X x)(i:ι)(ha:s9 X ρ (e::es) (args i))(hp:pre i)(hres:res i= .ok d)(hd:D.noL 9 d)(hdb:(x==("__debug__":Str))=false:=by decide)
  (he:ax (e::es) X.env=(false,eval e X.env)::ax es X.env:=by rfl)(hpl:(e_ pos (ax es X.env)).any (·.1)=false:=by rfl):az X ρ (.Call (.Name x p) (e::es) [] pos) d:=fun M0 H0 γ α σ H Q R kk=>by
 obtain⟨f,fd,ps,F,hm,hk,hb⟩:=F.ex
 refine(vQ F hr hg hm hk hb .nil hx vh hdb he hpl).to (ha M0 H0 γ α σ H _ R fun vs H1 s1 d1=> ?_)
 show nA X.K args pre res (vs ++ []) H1 Q E0
 rw [bJ]
 exact⟨i,JW,fun a z=>z.elim,d1.noM,hp,fun d' e v H2 s2 dn=>by rw [hres]at e; cases e; exact kk v H2 (s1.trans s2) (Dn.noL 9 hd dn),fun C e=>by rw [hres]at e; cases e⟩
end
section
variable {X:Cx}{ρ:eZ}{e:Expr}{ds:List D}{pos p:Pos}
theorem az.lenL(hg:Gl X "len")(hm:X.mg "len"=none)(h:kT X ρ e (.lst ds))(he:ax [e] X.env= [(false,eval e X.env)]:=by rfl):az X ρ (.Call (.Name "len" p) [e] [] pos) (.int ds.length):=az.len hg hm h rfl he
theorem az.lenT(hg:Gl X "len")(hm:X.mg "len"=none)(h:az X ρ e (.tup ds))(he:ax [e] X.env= [(false,eval e X.env)]:=by rfl):az X ρ (.Call (.Name "len" p) [e] [] pos) (.int ds.length):=az.len hg hm h.r rfl he
theorem ef.listL(hg:Gl X "list")(hm:X.mg "list"=none)(h:kT X ρ e (.lst ds))(he:ax [e] X.env= [(false,eval e X.env)]:=by rfl):ef X ρ (.Call (.Name "list" p) [e] [] pos) ds:=ef.list hg hm (by decide +kernel) h rfl he
theorem ef.listT(hg:Gl X "list")(hm:X.mg "list"=none)(h:az X ρ e (.tup ds))(he:ax [e] X.env= [(false,eval e X.env)]:=by rfl):ef X ρ (.Call (.Name "list" p) [e] [] pos) ds:=ef.list hg hm (by decide +kernel) h.r rfl he
theorem az.tupleL(hg:Gl X "tuple")(hm:X.mg "tuple"=none)(h:kT X ρ e (.lst ds))(he:ax [e] X.env= [(false,eval e X.env)]:=by rfl):az X ρ (.Call (.Name "tuple" p) [e] [] pos) (.tup ds):=az.tuple hg hm (by decide +kernel) h rfl he
end
theorem vV{α β:Type}(g:α->β)(xs:List α)(k:Int):uw (xs.map g) k=(uw xs k).map g:=by
 unfold uw
 rw [ae]
 cases C5 xs.length k with
 | none=>rfl
 | some j=>show(xs.map g)[j]? =(xs[j]?).map g; rw [aj]
theorem rd{α:Type}{xs:List α}{k:Int}{j:Nat}(hk:k=(j:Int))(h:j < xs.length):uw xs k=some xs[j]:=by
 subst hk; exact Hi (ah h)
def qS(N:List Str)(ds:List D):eZ:=ds.map .im ++ eR (N.length - ds.length) .un
section
variable {P:av}{w:World}{K:Frag}{mg:Str->Option Value}{base:Heap}{CX:gM}{k:Nat}{x qual:Str}{st:Stmt}{f:Addr}{fd:bg}{N ps:List Str}{ι:Type}{args:ι->List D}{pre:ι->Prop}{res:ι->Except Addr D}
theorem rep0{ds:List D}{vs:List V}{M0:MP}{H:Hp}{α:Nat->Addr}(hM: ∀a,M0 a->H a≠none)(h:cE K M0 H ds vs):Rep K M0 H [] α (qS N ds) (L2.start N vs) H:=by
 have hl:=h.len
 have get: ∀(i:Nat) (s:Sl),(qS N ds)[i]? =some s->(∃d,ds[i]? =some d/\s= .im d)\/s= .un:=fun i s e=>by
  unfold qS at e
  by_cases hi:i < ds.length
  ·rw [fb (by simpa using hi),aj,ah hi]at e
   exact .inl ⟨_,ah hi,(aA e).symm⟩
  ·rw [eS (by simpa using hi),yX]at e
   split at e
   ·exact .inr (aA e).symm
   ·cases e
 refine⟨bP.refl _,hM,fun i j es fs e1=> ?_,fun i d e=> ?_,fun i es e=> ?_,(fun p hp=>by cases hp), ?_⟩
 ·rcases get i _ e1 with⟨_,_,z⟩ | z <;> cases z
 ·rcases get i _ e with⟨d',e1,z⟩ | z
  ·cases z
   obtain⟨v,q1,q2⟩:=h.get e1
   have hi:i < vs.length:=(aD.mp q1).1
   refine⟨v, ?_,q2.less fun a z=> ?_⟩
   ·unfold L2.start
    rw [fb (by simpa using hi),aj,q1]
    rfl
   ·rcases z with z | ⟨j,es,e2,_⟩
    ·exact z
    ·rcases get j _ e2 with⟨_,_,z⟩ | z <;> cases z
  ·cases z
 ·rcases get i _ e with⟨_,_,z⟩ | z <;> cases z
 ·unfold L2.start qS
  simp only [aw,ae,i7,hl]
theorem fN(F:ji K x qual st f fd)(S:bQ N ps (aL st))(hm:mg x=some (.ref f))(hb:Binds K fd ps [])(hl: ∀i,(args i).length=ps.length)
  (body: ∀(cdv:Value) (A:bC) (outer:List Env) (s:ai) (H:Hp) (E:XK) (i:ι) (M0:MP),pre i->fM k (A.deeper (lF qual (aL st) s.heap.objs.size f cdv))->
   ∃d,res i= .ok d/\WS (nc CX P w K mg base N qual (aL st) f cdv A outer s H E).nox M0 H (bt st) (qS N (args i)) {N:=fun _=>d= .non,R:=fun d'=>d'=d}):jU P w K mg base CX (k+1) x args pre res:=by
 refine⟨f,fd,ps, ?_,hm,F.kp,hb⟩
 obtain⟨oc,od,kV,doc,pm,an,cdv,ct,osl,rfl,lk,hcd⟩:=F.ex
 refine xO lk hcd S (fun vs H Q E ⟨i,M0,_,h,_⟩=>by rw [h.len,hl]) fun A outer s H vs Q E hr hsp=> ?_
 obtain⟨i,M0,hM,h,hp,k1,k2⟩:=hsp
 obtain⟨d,hd,ws⟩:=body cdv A outer s H E i M0 hp hr
 refine⟨nE _ (bt st),(gI (X:=(nc CX P w K mg base N qual (aL st) f cdv A outer s H E).nox)).nox, ?_⟩
 refine nE.mono (En:=ends K M0 H [] {N:=fun _=>d= .non,R:=fun d'=>d'=d}) (fun σ' H' ⟨α,ρ,R,e⟩=> ?_) (fun v H' ⟨d',e,sm,dn⟩=> ?_) (fun _ _ ⟨_,_,_,z⟩=>z.elim) (fun _ _ ⟨_,_,_,z⟩=>z.elim) (ws [] (fun _=>0) _ H (rep0 hM h))
 ·exact k1 d hd .non H' R.same (by rw [e]; exact rfl)
 ·subst e
  exact k1 _ hd v H' sm dn
end
def Ik:D->String
 | .non=>"NoneType"
 | .bl _=>"bool"
 | .int _=>"int"
 | .str _=>"str"
 | .tup _=>"tuple"
 | .lst _=>"list"
 | .ins _ _ _=>""
 | .exc _=>""
 | .dct _ _=>""
def nP:D->Bool
 | .ins _ _ _=>false
 | .exc _=>false
 | .dct _ _=>false
 | _=>true
def tf(T:String)(d:D):Bool:=Ik d==T || (T=="int"&&Ik d=="bool")
section
variable {K:Frag}
theorem Jj{d:D}{T:String}(hp:nP d=true)(hT:T="int"\/T="bool"\/T="str"\/T="tuple"\/T="list"):PySem.W.kitOne K (.type (Ik d)) (.type T)=some (tf T d):=by
 rcases hT with rfl | rfl | rfl | rfl | rfl <;> cases d <;> first | rfl | (cases hp)
end
section
variable {X:Cx}{ρ:eZ}{M0:MP}{H0:Hp}{P:pE}{e a b:Expr}{es:List Expr}{d:D}{ds:List D}{pos p p2:Pos}
theorem IZ{pins:List (Addr×Obj)}{σ:St}{H:Hp}{s:ai}{M:MP}{v:V}{u c:Value}{r:Bool}{Q:Value->ai->Prop}{E:Value->ai->Prop}{A:bC}(I:Inv X pins σ H s)(h:oC X.K M H d v)(rv:RelV v u)(hp:nP d=true)
  (e:PySem.W.kitOne X.K (.type (Ik d)) c=some r)(k: ∀tk,Q (.bool r) {s with toks:=tk}):wpAny (model X.prog X.w) A (call (.builtin "isinstance") [u,c]) Q E s:=by
 cases d with
 | non=>cases (show v= .non from h); cases (show u=bf from rv); exact jN PySem.W.kitx_none I.kIn c6 e (fun z=>nomatch z) k
 | bl y=>cases (show v= .bl y from h); cases (show u=fC y from rv); exact jN PySem.W.kitx_bool I.kIn c6 e (fun z=>nomatch z) k
 | int i=>cases (show v= .int i from h); obtain⟨t,q⟩:=(show ∃t,u=fQ i t from rv); cases q; exact jN PySem.W.kitx_int I.kIn c6 e (fun z=>nomatch z) k
 | str y=>cases (show v= .str y from h); obtain⟨t,q⟩:=(show ∃t,u=yW y t from rv); cases q; exact jN PySem.W.kitx_str I.kIn c6 e (fun z=>nomatch z) k
 | tup ds=>
  obtain⟨a,xs,rfl,sq,_⟩:=h
  cases (show u=aq a from rv)
  obtain⟨its,_,⟨o,h1,h2,_⟩,_⟩:=I.tuple sq
  exact jN PySem.W.kitx_tuple I.kIn ⟨o,h1,h2⟩ e (fun z=>nomatch z) k
 | lst ds=>
  obtain⟨a,xs,rfl,sq,_⟩:=h
  cases (show u=aq a from rv)
  obtain⟨its,_,⟨o,n,h1,h2,_⟩,_⟩:=I.list sq
  exact jN PySem.W.kitx_list I.kIn ⟨o,h1,h2⟩ e (fun z=>nomatch z) k
 | _=>cases hp
theorem GU{pins:List (Addr×Obj)}{σ:St}{H:Hp}{s:ai}{M:MP}{v:V}{u:Value}{tp:Addr}{dd:Option Addr}{its:List Value}{n:Nat}{sl:Array (Option Value)}{r:Bool}{Q:Value->ai->Prop}{E:Value->ai->Prop}{A:bC}(I:Inv X pins σ H s)(h:oC X.K M H d v)(rv:RelV v u)(hp:nP d=true)
  (ht:s.heap.get? tp=some ⟨.type "tuple",dd, .seq its.toArray n,sl⟩)(e:PySem.W.kitAny X.K (.type (Ik d)) its=some r)(k: ∀tk,Q (.bool r) {s with toks:=tk}):wpAny (model X.prog X.w) A (call (.builtin "isinstance") [u, .ref tp]) Q E s:=by
 cases d with
 | non=>cases (show v= .non from h); cases (show u=bf from rv); exact jO PySem.W.kitx_none I.kIn c6 ht e (fun z=>nomatch z) k
 | bl y=>cases (show v= .bl y from h); cases (show u=fC y from rv); exact jO PySem.W.kitx_bool I.kIn c6 ht e (fun z=>nomatch z) k
 | int i=>cases (show v= .int i from h); obtain⟨t,q⟩:=(show ∃t,u=fQ i t from rv); cases q; exact jO PySem.W.kitx_int I.kIn c6 ht e (fun z=>nomatch z) k
 | str y=>cases (show v= .str y from h); obtain⟨t,q⟩:=(show ∃t,u=yW y t from rv); cases q; exact jO PySem.W.kitx_str I.kIn c6 ht e (fun z=>nomatch z) k
 | tup ds=>
  obtain⟨a,xs,rfl,sq,_⟩:=h
  cases (show u=aq a from rv)
  obtain⟨its,_,⟨o,h1,h2,_⟩,_⟩:=I.tuple sq
  exact jO PySem.W.kitx_tuple I.kIn ⟨o,h1,h2⟩ ht e (fun z=>nomatch z) k
 | lst ds=>
  obtain⟨a,xs,rfl,sq,_⟩:=h
  cases (show u=aq a from rv)
  obtain⟨its,_,⟨o,n,h1,h2,_⟩,_⟩:=I.list sq
  exact jO PySem.W.kitx_list I.kIn ⟨o,h1,h2⟩ ht e (fun z=>nomatch z) k
 | _=>cases hp
def LA(K:Frag):List V->Hp->VK->Prop:=fun xs H Q=> ∃v T M d,xs= [v, .ty T]/\oC K M H d v/\nP d=true/\(T="int"\/T="bool"\/T="str"\/T="tuple"\/T="list")/\Q (.bl (tf T d)) H
theorem Ex:gz X (.builtin "isinstance") (LA X.K):=by
 intro pins s σ H xs us Q I r ⟨v,T,M,d,e,h,hp,hT,q⟩
 subst e
 obtain⟨u,c,rfl,r1,r2⟩:=vals2 r
 cases (show c=cz T from r2)
 exact IZ I h r1 hp (Jj hp hT) fun tk=>⟨.bl _,H,I.tok tk,rfl,q⟩
theorem az.yb{T:String}{x:Str}(hg:Gl X "isinstance")(hm:X.mg "isinstance"=none)(hgT:Gl X x)(hmT:X.mg x=none)(hv:di x=some (.type T))(hT:T="int"\/T="bool"\/T="str"\/T="tuple"\/T="list")(h:kT X ρ e d)(hp:nP d=true)
  (he:ax [e, .Name x p2] X.env=(false,eval e X.env)::ax [.Name x p2] X.env:=by rfl)(he2:ax [.Name x p2] X.env= [(false,eval (.Name x p2) X.env)]:=by rfl)(hpl:(e_ pos (ax [.Name x p2] X.env)).any (·.1)=false:=by rfl)
  (hn:x≠"__name__":=by decide)(hd:(x==("__debug__":Str))=false:=by decide):az X ρ (.Call (.Name "isinstance" p) [e, .Name x p2] [] pos) (.bl (tf T d)):=fun M0 H0 γ α σ H Q R k=>
 (il Ex hg hm boot_isinstance (dQ g8 (dQ (vL (v:= .ty T) hgT hmT hv rfl hn hd) gD he2) he) (by decide) (by decide) he hpl).to (h M0 H0 γ α σ H _ R fun v H1 s1 d1=>⟨v,T,_,d,rfl,d1,hp,hT,k _ H1 s1 rfl⟩)
def dN(ns:List Int):Nat:=(firstMet (fun i=>ns.getD i 0) ns.length).length
theorem Ct(hc:X.calm=true):gz X (.type "set") (fun xs H Q=> ∃q ns,xs= [.ref q]/\lq X.K H q (ns.map V.int)/\ns.length < 4000/\ ∀l S,H l=none->Q (.ref l) (upd H l (.set S (dN ns)))):=by
 intro pins s σ H xs us Q I r ⟨q,ns,e,hq,hl,k⟩
 subst e
 obtain⟨u,rfl,rx⟩:=vals1 r
 cases rx
 obtain⟨its,r',pl,hz⟩:=I.list hq
 have hlen:=r'.length
 rw [ae]at hlen
 have e:its.toArray.size=ns.length:=by rw [aB]; exact hlen.symm
 refine PySem.call_set_list (I.ok.hd hc) pl.isList (intsAre_of r') (by rw [e]; unfold scanBound; omega) fun h' tk hS hk=> ?_
 rw [e]at hS
 exact⟨.ref s.heap.objs.size,_,I.laid (t':=tk) (fun b o e=>hk b o (au e) e) (ay _) (o:= .set _ (dN ns)) hS,rfl,k _ _ I.fresh⟩
theorem wW:gz X (.builtin "len") (fun xs H Q=> ∃q S n,xs= [.ref q]/\H q=some (.set S n)/\Q (.int n) H):=by
 intro pins s σ H xs us Q I r ⟨q,S,n,e,hq,k⟩
 subst e
 obtain⟨u,rfl,rx⟩:=vals1 r
 cases rx
 obtain⟨o,es,ep,t,h1,h2,h3,_,_,h6,h7,h8⟩:=(show s.heap.SetOf (fJ X.prog X.w) q S n from I.dW q _ hq)
 refine call_len_set h1 h2 h3 h7 (by unfold scanBound at h6; omega) ⟨.int n,H,I.tok _,⟨_,by rw [h8]⟩,k⟩
theorem az.lenSet{ns:List Int}{p3:Pos}(hc:X.calm=true)(hg:Gl X "len")(hm:X.mg "len"=none)(hg2:Gl X "set")(hm2:X.mg "set"=none)(h:kT X ρ e (.lst (ns.map .int)))(hl:ns.length < 4000)
  (he:ax [e] X.env= [(false,eval e X.env)]:=by rfl)(he2:ax [.Call (.Name "set" p2) [e] [] p3] X.env= [(false,eval (.Call (.Name "set" p2) [e] [] p3) X.env)]:=by rfl):az X ρ (.Call (.Name "len" p) [.Call (.Name "set" p2) [e] [] p3] [] pos) (.int (dN ns)):=fun M0 H0 γ α σ H Q R k=>
 (il wW hg hm PySem.boot_len (dQ (jy (Ct hc) hg2 hm2 (by decide +kernel) (dQ g8 gD he) (by decide) (by decide) he) gD he2) (by decide) (by decide) he2).to (h M0 H0 γ α σ H _ R fun v H1 s1 d1=>by
  obtain⟨q,xs,rfl,sq,dn⟩:=d1
  rw [dn.ints]at sq
  exact⟨q,ns,rfl,sq,hl,fun l S hl'=>⟨l,S,_,rfl,bG,k _ _ (s1.trans (bw hl')) rfl⟩⟩)
theorem Kx(ns:List Int):dN ns<=ns.length:=firstMet_length_le _ _
theorem Cy(l:List Int): ∀σ:List Int,σ.Nodup->(∀x∈l,x∈σ->False)->l.Nodup->(l.foldl jg σ).length=σ.length+l.length:=by
 induction l with
 | nil=>intro σ _ _ _; rfl
 | cons a l ih=>
  intro σ h1 h2 h3
  rw [d_]at h3
  have na:a∉σ:=fun z=>h2 a (.head _) z
  rw [IM]
  have e:jg σ a=σ ++ [a]:=by
   unfold jg
   rw [if_neg]
   simpa using na
  rw [e,ih]
  ·simp only [aw,aH,dC]; omega
  ·rw [iU]
   exact⟨h1,by simp,fun x hx y hy z=>by rw [aK.mp hy]at z; exact na (z▸hx)⟩
  ·intro x hx hm
   rcases bI.mp hm with hm | hm
   ·exact h2 x (.tail _ hx) hm
   ·rw [aK.mp hm]at hx; exact h3.1 hx
  ·exact h3.2
theorem Ff(l:List Int): ∀σ:List Int, ¬(σ ++ l).Nodup->σ.Nodup->(l.foldl jg σ).length < σ.length+l.length:=by
 induction l with
 | nil=>intro σ h1 h2; rw [bJ]at h1; exact absurd h2 h1
 | cons a l ih=>
  intro σ h1 h2
  rw [IM]
  by_cases ha:a∈σ
  ·have e:jg σ a=σ:=by
    unfold jg
    rw [if_pos]
    simpa using ha
   rw [e]
   have:=length_foldl_step_dedup_le l σ
   rw [aH]; omega
  ·have e:jg σ a=σ ++ [a]:=by
    unfold jg
    rw [if_neg]
    simpa using ha
   rw [e]
   have:=ih (σ ++ [a]) (by rw [aP]; exact h1) (by
    rw [iU]
    exact⟨h2,by simp,fun x hx y hy z=>by rw [aK.mp hy]at z; exact ha (z▸hx)⟩)
   rw [aw,eY]at this
   rw [aH]; omega
theorem range_getD(ns:List Int):(bE ns.length).map (fun i=>ns.getD i 0)=ns:=by
 apply cA
 intro i
 rw [aj]
 by_cases h:i < ns.length
 ·rw [jS h,ah h]
  show some (ns.getD i 0)=_
  rw [ao,ah h]
  rfl
 ·rw [aI (by rw [bT]; omega),aI (by omega)]
  rfl
theorem A7(ns:List Int):dN ns=ns.length↔ns.Nodup:=by
 have e:dN ns=(ns.foldl jg []).length:=by unfold dN firstMet; rw [range_getD]
 rw [e]
 by_cases h:ns.Nodup
 ·exact⟨fun _=>h,fun _=>by rw [Cy ns [] nZ (fun _ _ z=>by cases z) h]; simp⟩
 ·refine⟨fun z=> ?_,fun z=>absurd z h⟩
  have:=Ff ns [] (by simpa using h) nZ
  simp only [dC,qt]at this
  omega
theorem GG:ng X (jt .Add) (KO X.K):=by
 intro pins s σ H x y v u Q I rx ry h
 obtain⟨l,b,xs,zs,rfl,rfl,hH,hB,hz,q⟩:=h
 cases rx
 cases ry
 obtain⟨its,r,⟨⟨oc,od,odt,osl⟩,n,e1,ec,ed,edt⟩,_⟩:=I.list hH
 obtain⟨its2,r2,⟨⟨oc2,od2,odt2,osl2⟩,n2,e2,ec2,ed2,edt2⟩,_⟩:=I.list hB
 have hl:=r.length
 have hl2:=r2.length
 simp only at ec ed edt ec2 ed2 edt2
 subst ec ed edt ec2 ed2 edt2
 refine Ai ⟨_,e1,rfl⟩ ⟨_,e2,rfl⟩ noFill_list_add seq_list_add F.slot_list_add F.entry_list_add (F.args_list_add_2 _ _) (BQ l b its.toArray its2.toArray n n2 none none osl osl2 (by rw [aB,aB]; omega)) ⟨e1,e2, ?_⟩
 have ea:its.toArray ++ its2.toArray=(its ++ its2).toArray:=by simp
 rw [ea]
 exact⟨.ref _,_,I.lnew (t':=s.toks) (r.append r2) (by rw [aw]; omega),rfl,q _ I.fresh⟩
theorem ef.cat{fs:List D}(ha:kT X ρ a (.lst ds))(hb:kT X ρ b (.lst fs))(hl:ds.length+fs.length<=1000000):ef X ρ (.BinOp a .Add b pos) (ds ++ fs):=fun M0 H0 γ α σ H Q R k=>
 (Dj GG g8 g8).to (ha M0 H0 γ α σ H _ R fun v H1 s1 d1=>hb M0 H0 γ α σ H1 _ (R.next s1) fun u H2 s2 d2=>by
  obtain⟨q,xs,rfl,sq,dn⟩:=d1.same s2
  obtain⟨q2,xs2,rfl,sq2,dn2⟩:=d2
  exact⟨q,q2,xs,xs2,rfl,rfl,sq,sq2,by rw [dn.len,dn2.len]; exact jq hl,fun l hl'=>k l _ H2 _ (s1.trans s2) hl' (bw hl') bG ((sh hl' (cE.app dn dn2)).same (bw hl'))⟩)
theorem W1.popAt{i j:Nat}{x y:Str}{k:Int}{n:Nat}{p1 p3 p4:Pos}(hN:X.N.Nodup)(hi:X.N[i]? =some x)(hv:wM X.env.scope x)(hρ:ρ[i]? =some (.mu ds))(hj:X.N[j]? =some y)(hy:Loc X.env.scope y)(hlt:j < ρ.length)(hij:j≠i)(h:az X ρ e (.int k))
  (hk:k=(n:Int))(hn:ds[n]? =some d)(hn2:n < 1000000)(q:P.N ((ρ.set i (.mu (ds.eraseIdx n))).set j (.im d)))
  (mc:IB X (.Name x p1) "pop" e p2 p3)(hd:(x==("__debug__":Str))=false:=by decide)(hcd:(x==("__classdict__":Str))=false:=by decide)
  (hs:cO (.Call (.Attribute (.Name x p1) "pop" p2) [e] [] p3) (some (.Name y p4)) pos.line X.env=pure false:=by rfl)(hf:X.fn y=true\/X.env.scope.names.lookup y=some .local:=by first | exact .inl rfl | exact .inr rfl | assumption):
  W1 X M0 H0 (.Assign [.Name y p4] (.Call (.Attribute (.Name x p1) "pop" p2) [e] [] p3) pos) ρ P:=fun γ α σ H R=>by
 obtain⟨m1,m2,m3,m4⟩:=mc
 obtain⟨a1,a2,xs,a3,a4⟩:=R.mu i ds hρ
 refine(pL hN hj hy (xh fV PySem.F.slot_list_pop PySem.F.type_list_pop xc (jF hi hv hd hcd) vh m1 m2 m3 m4 rfl) hs hf).to ?_
 refine⟨_,a2, .inl ⟨rfl,_,lq.of a3⟩,(bp.cons h bp.nil m4) M0 H0 γ α σ H _ R fun vs H1 s y1=> ?_⟩
 obtain⟨v,r,rfl,e1,e2⟩:=y1
 cases e2
 cases (show v= .int k from e1)
 subst hk
 obtain⟨u,hu,du⟩:=(a4.same s).get hn
 have hlen:=a4.len
 have hnl:n < xs.length:=(aD.mp hu).1
 have R1:=(R.next s).upd_mu hρ ((a4.same s).erase n)
 refine⟨α i,xs,(n:Int),n,u,rfl,rfl,s _ _ a3,by omega,by omega,(oA (by unfold C5; rw [if_pos (by omega),if_pos (by omega)]; simp)).1,hu,α,_,R1.set_im (by rw [bo]; exact hlt) ?_,q⟩
 have kp:nJ (MM M0 ρ α) H1 (upd H1 (α i) (.lst (xs.eraseIdx n))):=fun b o e n'=>by
  by_cases hb:b=α i
  ·subst hb
   rw [s _ _ a3]at e; cases e
   exact absurd (.inr ⟨i,ds,hρ,rfl⟩) (n' _ rfl)
  ·rw [cu hb]; exact e
 refine(du.keep kp).less fun a z=> ?_
 rcases z with z | ⟨l,es,e,z⟩
 ·exact .inl z
 ·rcases get_set e with⟨rfl,_⟩ | ⟨_,q⟩
  ·exact .inr ⟨l,ds,hρ,z⟩
  ·exact .inr ⟨l,es,q,z⟩
theorem W1.setIx{i n:Nat}{x:Str}{k:Int}{p1 p3:Pos}(hi:X.N[i]? =some x)(hv:wM X.env.scope x)(hρ:ρ[i]? =some (.mu ds))(h:az X ρ e d)(hb:az X ρ b (.int k))(hk:k=(n:Int))(hn:n < ds.length)(q:P.N (ρ.set i (.mu (ds.set n d))))
  (hd:(x==("__debug__":Str))=false:=by decide)(hcd:(x==("__classdict__":Str))=false:=by decide)
  (hs:swapsWithSole [.Subscript (.Name x p1) b p3] e pos.line X.env=pure false:=by rfl)(hw:swappedStores [.Subscript (.Name x p1) b p3] e X.env=pure none:=by rfl)
  (h1:(mn [.Subscript (.Name x p1) b p3] X.env).map (·.2)= [ko (.Subscript (.Name x p1) b p3) X.env]:=by rfl)
  (ha: ∀v,ko (.Subscript (.Name x p1) b p3) X.env v=(do
   let ov<-jW [v] (eval (.Name x p1) X.env)
   let iv<-jW [v,ov] (eval b X.env)
   standAt p3
   jW [v,ov,iv] (setItem ov iv v)
   release [v,ov,iv] []):=by intro _; rfl):
  W1 X M0 H0 (.Assign [.Subscript (.Name x p1) b p3] e pos) ρ P:=fun γ α σ H R=>by
 obtain⟨a1,a2,xs,a3,a4⟩:=R.mu i ds hρ
 refine(IY g8 (Jq (jF hi hv hd hcd) g8 set_list ha) hs hw h1).to (h M0 H0 γ α σ H _ R fun v H1 s1 d1=>⟨_,a2,hb M0 H0 γ α σ H1 _ (R.next s1) fun u H2 s2 d2=> ?_⟩)
 cases (show u= .int k from d2)
 subst hk
 have hl:=a4.len
 refine⟨α i,xs,(n:Int),n,rfl,rfl,s2 _ _ (s1 _ _ a3),by unfold C5; rw [if_pos (by omega),if_pos (by omega)]; simp,α,_,((R.next s1).next s2).upd_mu hρ ?_,q⟩
 exact cE.set (d1.same s2) n ((a4.same s1).same s2)
theorem W1.extend{i:Nat}{x:Str}{p1 p3:Pos}{fs:List D}(hi:X.N[i]? =some x)(hv:wM X.env.scope x)(hρ:ρ[i]? =some (.mu ds))(h:az X ρ e d)(hq:uI d fs)(hl:ds.length+fs.length<=1000000)(q:P.N (ρ.set i (.mu (ds ++ fs))))
  (mc:IB X (.Name x p1) "extend" e p2 p3)(hd:(x==("__debug__":Str))=false:=by decide)(hcd:(x==("__classdict__":Str))=false:=by decide)(hsw:cO (.Call (.Attribute (.Name x p1) "extend" p2) [e] [] p3) none pos.line X.env=pure false:=by rfl):
  W1 X M0 H0 (.Expr (.Call (.Attribute (.Name x p1) "extend" p2) [e] [] p3) pos) ρ P:=
 W1.mt1 fV PySem.F.slot_list_extend PySem.F.type_list_extend GV hi hv hρ h (fun M H l xs v Q a b c k=>by
  obtain⟨q1,ys,rfl,sq,dn⟩:=vG hq c.t
  exact⟨l,q1,xs,ys,rfl,rfl,a,sq,by rw [b.len,dn.len]; exact jq hl,k _ _ (cE.app b dn)⟩) q mc hd hcd hsw
end
def xN(t:Bool)(ds:List D):D:=if t then .tup ds else .lst ds
section
variable {X:Cx}{ρ:eZ}{e a b tg:Expr}{d:D}{ds:List D}{pos p:Pos}{t:Bool}
theorem Dx(t:Bool)(ds:List D):uI (xN t ds) ds:=by cases t <;> rfl
theorem az.lenS(hg:Gl X "len")(hm:X.mg "len"=none)(h:az X ρ e (xN t ds))(he:ax [e] X.env= [(false,eval e X.env)]:=by rfl):az X ρ (.Call (.Name "len" p) [e] [] pos) (.int ds.length):=az.len hg hm h.r (Dx t ds) he
theorem ef.listS(hg:Gl X "list")(hm:X.mg "list"=none)(h:az X ρ e (xN t ds))(he:ax [e] X.env= [(false,eval e X.env)]:=by rfl):ef X ρ (.Call (.Name "list" p) [e] [] pos) ds:=ef.list hg hm (by decide +kernel) h.r (Dx t ds) he
theorem az.tupleS(hg:Gl X "tuple")(hm:X.mg "tuple"=none)(h:az X ρ e (xN t ds))(he:ax [e] X.env= [(false,eval e X.env)]:=by rfl):az X ρ (.Call (.Name "tuple" p) [e] [] pos) (.tup ds):=az.tuple hg hm (by decide +kernel) h.r (Dx t ds) he
theorem az.ixS{k:Int}(ha:az X ρ a (xN t ds))(hb:az X ρ b (.int k))(hk:uw ds k=some d)(hs:oV b:=by intro _ _; rfl):az X ρ (.Subscript a b pos) d:=by
 cases t with
 | true=>exact az.ixT ha hb hk hs
 | false=>exact az.ixL ha.r hb hk hs
theorem ja.seq(h:az X ρ e (xN t ds)):ja X ρ tg e ds:=by
 cases t with
 | true=>exact ja.tup h
 | false=>exact ja.list h
end
theorem wd{scope:Scope}{env:Env}(h: ∀y∈scope.names,y.2≠ .free):(jl scope env).names=scope.names:=by
 unfold jl
 dsimp only
 have: ∀l:List (Str×iP),(∀y∈l,y.2≠ .free)->(l.map fun(n,k)=>if(k==yL&&env.scope.kind== .function&&env.kindOf n==some .cell)then(n,NameKind.cell)else(n,k))=l:=by
  intro l
  induction l with
  | nil=>intro _; rfl
  | cons y l ih=>
   intro hl
   obtain⟨n,k⟩:=y
   rw [aY,ih fun z hz=>hl z (.tail _ hz)]
   have hk:(k==yL)=false:=by
    have:=hl (n,k) (.head _)
    cases k <;> first | rfl | exact absurd rfl this
   simp [hk]
 exact this _ h
theorem dE.closed{X:Cx}{scope:Scope}{x:Str}(hf: ∀y∈scope.names,y.2≠ .free)(hc: ∀y∈scope.names,y.2≠ .cell)(hk:scope.kind= .function)(hn: ∀y∈scope.names,y.2= .local->scope.names.lookup y.1=some .local)(ho:scope.names.lookup x=some .local):
  dE X [x] [] scope x [] where
 w8:=closureFor_none hf
 cell:=hc
 kind:=hk
 names:=hn
 own:=ho
 hN:=⟨[],rfl,rfl,fun i y j h=>by simp at h⟩
 sub:=fun y c h=>by simp at h
 has:=fun y h=>by
  rw [wd hf]at h
  rcases h with h | h
  ·exact absurd rfl (hc _ (b9 h))
  ·exact absurd rfl (hf _ (b9 h))
theorem r6{ρ:eZ}:xI ρ [] []:=⟨rfl,fun k j c h=>by simp at h⟩
theorem ja.to{X:Cx}{ρ:eZ}{tg e:Expr}{ds ds':List D}(h:ja X ρ tg e ds)(q:ds=ds'):ja X ρ tg e ds':=q▸h
section
variable {X:Cx}{ρ:eZ}{x:Str}{d:D}{ds:List D}{pos:Pos}
theorem g9{i:Nat}{ρ:eZ}(h:Nat.ble (i+1) ρ.length=true):i < ρ.length:=Bx h
theorem nm(i:Nat)(hN:X.N[i]? =some x)(hρ:ρ[i]? =some (.im d))(hv:wM X.env.scope x:=by first | exact Or.inl rfl | exact Or.inr (Or.inl rfl) | exact Or.inr (Or.inr rfl))(hd:(x==("__debug__":Str))=false:=by decide)(hcd:(x==("__classdict__":Str))=false:=by decide):az X ρ (.Name x pos) d:=az.name i hN hv hρ hd hcd
theorem BF(i:Nat)(hN:X.N[i]? =some x)(hρ:ρ[i]? =some (.mu ds))(hv:wM X.env.scope x:=by first | exact Or.inl rfl | exact Or.inr (Or.inl rfl) | exact Or.inr (Or.inr rfl))(hd:(x==("__debug__":Str))=false:=by decide)(hcd:(x==("__classdict__":Str))=false:=by decide):kT X ρ (.Name x pos) (.lst ds):=kT.name i hN hv hρ hd hcd
theorem jK{lo:Int}{n i:Nat}{d:D}(h:(kg lo n)[i]? =some d):d= .int (lo+(i:Int))/\i < n:=by
 unfold kg at h
 rw [aj]at h
 cases e:(bE n)[i]? with
 | none=>rw [e]at h; cases h
 | some j=>
  rw [e]at h
  obtain⟨h1,h2⟩:=aD.mp e
  rw [bT]at h1
  rw [FV]at h2
  subst h2
  exact⟨(aA h).symm,h1⟩
theorem gT{lo:Int}{n:Nat}:(kg lo n).length=n:=by unfold kg; rw [ae,bT]
end
end Z
namespace K
open PySem L2 Z
abbrev St:=L2.St
def top(i:Nat):Stmt:=PySem.Challenge.pw_cranefloor_k09_whole_heights_renamed.main.body.getD i (.Pass ⟨0,0,0,0⟩)
abbrev E7:Stmt:=top 47
abbrev zP:Stmt:=top 49
abbrev E4:Stmt:=top 50
abbrev mH:Stmt:=top 51
abbrev qC:Stmt:=top 18
abbrev lh:Stmt:=top 19
abbrev rf:Stmt:=top 20
abbrev z7:Stmt:=top 21
abbrev Aa:Stmt:=top 22
abbrev vI:Stmt:=top 23
abbrev oO:Stmt:=top 29
abbrev HJ:Stmt:=top 28
abbrev vo:Stmt:=top 30
abbrev vY:Stmt:=top 27
abbrev oM:Stmt:=top 26
abbrev rK:Stmt:=top 25
abbrev Fe:Stmt:=top 54
abbrev mV:Stmt:=top 36
abbrev lY:Stmt:=top 35
abbrev sg:Stmt:=top 37
abbrev lx:Stmt:=top 33
abbrev jH:Stmt:=top 34
abbrev vk:Stmt:=top 52
abbrev vc:Stmt:=top 53
abbrev l_:Stmt:=top 40
abbrev jG:Stmt:=top 41
abbrev jz:Stmt:=top 42
abbrev rF:Stmt:=top 43
abbrev mM:Stmt:=top 44
abbrev Bt:Stmt:=top 45
structure Bn(mg:Str->Option Value):Prop where
 len:mg "len"=none
 range:mg "range"=none
 list:mg "list"=none
 tuple:mg "tuple"=none
 set:mg "set"=none
def NX(CX:gM):Prop:= ∀l H s e s',CX l H s E0 e s'->False
theorem bb{CX:gM}{X:Cx}(h:NX CX):Passes CX X E0:=fun _ _ H s e s' _ z=>(h _ H s e s' z).elim
def cellAt(ns:List Int)(k:Nat):Int:=ns.getD k 0
def pD(p:Int×Int):D:= .tup [.int p.1, .int p.2]
structure c_ where
 st:Int
 ht:Int
 lf:Int
 eE:List (Int×Int)
def c_.d(f:c_):D:= .tup [.int f.st, .int f.ht, .int f.lf, .lst (f.eE.map pD)]
def gf(ns:List Int)(first most:Nat):Nat->List (Int×Int)
 | 0=> []
 | k+1=>
  let p:=cellAt ns (first+1+k)
  if p % most=p / most % most then gf ns first most k else gf ns first most k ++ [(p % most,p / most % most)]
def rk(ns:List Int)(first most:Nat):c_:=
 let c:=cellAt ns first
 ⟨2+c % 3,1+c / 3 % 6,1+c / 18 % 3,gf ns first most (c / 72 % 5).toNat⟩
theorem ma(ns:List Int)(first most:Nat): ∀k,(gf ns first most k).length<=k
 | 0=>ay _
 | k+1=>by
  have:=ma ns first most k
  unfold gf
  dsimp only
  split
  ·omega
  ·rw [aw,eY]; omega
section
variable {P:av}{w:World}{K:Frag}{mg:Str->Option Value}{base:Heap}{CX:gM}
theorem JB:bQ ["script","k"] ["script","k"] (aL E7):=⟨rfl,rfl,rfl,by decide +kernel,rfl,by decide +kernel,by decide +kernel⟩
abbrev yf(P:av)(w:World)(K:Frag)(mg:Str->Option Value)(base:Heap)(CX:gM):Prop:=
 jU P w K mg base CX 1 "_law_cell_at" (fun i:List Int×Nat=> [.lst (i.1.map .int), .int i.2]) (fun _=>True) (fun i=> .ok (.int (cellAt i.1 i.2)))
theorem Hz{f:Addr}{fd:bg}(B:Bn mg)(F:ji K "_law_cell_at" "_law_cell_at" E7 f fd)(hm:mg "_law_cell_at"=some (.ref f))(hb:Binds K fd ["script","k"] []):yf P w K mg base CX:=by
 refine fN F JB hm hb (fun i=>rfl) fun cdv A outer s H E i M0 hp hr=>⟨_,rfl, ?_⟩
 obtain⟨ns,k⟩:=i
 refine WS.cons (W1.ite (c8.cI .lt (az.name 1 rfl (.inl rfl) rfl) (az.lenL rfl B.len (az.name 0 rfl (.inl rfl) rfl).r)) (fun h=> ?_) fun h=> ?_)
 ·have h':(k:Int) < ns.length:=by simpa using of_decide_eq_true h
  have hk:k < ns.length:=by omega
  refine WS.one (W1.ret (az.ixL (az.name 0 rfl (.inl rfl) rfl).r (az.name 1 rfl (.inl rfl) rfl) (d:= .int (cellAt ns k)) ?_) rfl)
  rw [vV,rd rfl hk]
  show some (D.int ns[k])=some (D.int (ns.getD k 0))
  rw [ao,ah hk]
  rfl
 ·refine WS.nil (WS.one (W1.ret az.int ?_))
  have h': ¬(k:Int) < ns.length:=by simpa using of_decide_eq_false h
  show D.int 0=D.int (ns.getD k 0)
  rw [ao,aI (by omega)]
  rfl
theorem Bv:bQ ["script","first","most","cell","bans","k","pair","one","other"] ["script","first","most"] (aL zP):=⟨rfl,rfl,rfl,by decide +kernel,rfl,by decide +kernel,by decide +kernel⟩
abbrev zX(P:av)(w:World)(K:Frag)(mg:Str->Option Value)(base:Heap)(CX:gM):Prop:=
 jU P w K mg base CX 2 "_law_floor" (fun i:List Int×Nat×Nat=> [.lst (i.1.map .int), .int i.2.1, .int i.2.2]) (fun i=>0 < i.2.2/\i.2.2 < 1000) (fun i=> .ok (rk i.1 i.2.1 i.2.2).d)
theorem DL{f:Addr}{fd:bg}(nx:NX CX)(B:Bn mg)(G1:yf P w K mg base CX)(F:ji K "_law_floor" "_law_floor" zP f fd)(hm:mg "_law_floor"=some (.ref f))(hb:Binds K fd ["script","first","most"] []):zX P w K mg base CX:=by
 refine fN F Bv hm hb (fun i=>rfl) fun cdv A outer s H E i M0 hp hr=>⟨_,rfl, ?_⟩
 obtain⟨ns,first,most⟩:=i
 obtain⟨hp1,hp2⟩:0 < most/\most < 1000:=hp
 have px:=Bv.nd
 refine WS.cons (W1.set (i:=3) px rfl (.inl rfl) (g9 rfl) (az.call G1 hr (bb nx) rfl (ns,first) (bp.cons (nm 0 rfl rfl) (bp.cons (nm 1 rfl rfl) bp.nil)) trivial rfl) ?_)
 refine WS.cons (W1.setF (i:=4) px rfl (.inl rfl) (g9 rfl) (ef.lst bp.nil) ?_)
 refine WS.cons (W1.for (ds:=kg 0 (cellAt ns first / 72 % 5).toNat) (fun i ρ=> ∃a b c d,ρ= [.im (.lst (ns.map .int)), .im (.int first), .im (.int most), .im (.int (cellAt ns first)), .mu ((gf ns first most i).map pD),a,b,c,d]) cy rfl
  (ja.range rfl B.range (az.mod (az.fdiv (nm 3 rfl rfl) az.int ⟨by decide,by decide⟩) az.int (by decide)) (by omega)) ⟨_,_,_,_,rfl⟩ ?_ ?_)
 ·rintro i d ρ hd ⟨a,b,c,d',rfl⟩
  obtain⟨rfl,hi⟩:=jK hd
  have hlen:=ma ns first most i
  refine⟨_,yS.name (i:=5) px rfl (.inl rfl) (g9 rfl), ?_⟩
  have e1:(first:Int)+1+(0+(i:Int))=((first+1+i:Nat):Int):=by omega
  refine WS.cons (W1.set (i:=6) px rfl (.inl rfl) (g9 rfl) (az.call G1 hr (bb nx) rfl (ns,first+1+i) (bp.cons (nm 0 rfl rfl) (bp.cons ((az.add (az.add (nm 1 rfl rfl) az.int) (nm 5 rfl rfl)).to (by rw [e1])) bp.nil)) trivial rfl) ?_)
  refine WS.cons (W1.set (i:=7) px rfl (.inl rfl) (g9 rfl) (az.mod (nm 6 rfl rfl) (nm 2 rfl rfl) (by omega)) ?_)
  refine WS.cons (W1.set (i:=8) px rfl (.inl rfl) (g9 rfl) (az.mod (az.fdiv (nm 6 rfl rfl) (nm 2 rfl rfl) ⟨by omega,by omega⟩) (nm 2 rfl rfl) (by omega)) ?_)
  refine WS.one (W1.ite (c8.cI .ne (nm 7 rfl rfl) (nm 8 rfl rfl)) (fun h=> ?_) fun h=> ?_)
  ·refine WS.one (W1.append (i:=4) rfl (.inl rfl) rfl (az.tup (bp.cons (nm 7 rfl rfl) (bp.cons (nm 8 rfl rfl) bp.nil))) (by rw [ae]; omega) ?_ ⟨rfl,rfl,rfl,rfl⟩)
   have hne: ¬cellAt ns (first+1+i) % most=cellAt ns (first+1+i) / most % most:=by simpa using h
   have hB:gf ns first most (i+1)=gf ns first most i ++ [(cellAt ns (first+1+i) % most,cellAt ns (first+1+i) / most % most)]:=by
    rw [gf]; exact if_neg hne
   dsimp only
   rw [hB,bD]
   exact⟨_,_,_,_,rfl⟩
  ·have he:cellAt ns (first+1+i) % most=cellAt ns (first+1+i) / most % most:=by simpa using h
   have hB:gf ns first most (i+1)=gf ns first most i:=by
    rw [gf]; exact if_pos he
   refine WS.nil ?_
   dsimp only
   rw [hB]
   exact⟨_,_,_,_,rfl⟩
 ·rintro ρ ⟨a,b,c,d,rfl⟩
  rw [gT]
  refine WS.freeze (i:=4) rfl (WS.one (W1.ret (az.tup (bp.cons (az.add az.int (az.mod (nm 3 rfl rfl) az.int (by decide))) (bp.cons (az.add az.int (az.mod (az.fdiv (nm 3 rfl rfl) az.int ⟨by decide,by decide⟩) az.int (by decide)))
   (bp.cons (az.add az.int (az.mod (az.fdiv (nm 3 rfl rfl) az.int ⟨by decide,by decide⟩) az.int (by decide))) (bp.cons (nm 4 rfl rfl) bp.nil))))) rfl))
def tU(f:c_)(r:List Int)(k:Nat):Bool:=(decide (0<=r.getD k 0)&&decide (r.getD k 0<=9))&& !(decide (0 < k)&&decide ((r.getD k 0,r.getD (k - 1) 0)∈f.eE))
def fY(f:c_)(r:List Int):Bool:=decide ((r.length:Int)<=f.ht)&&(bE r.length).all (tU f r)
def good(f:c_)(rows:List (List Int)):Bool:=(decide ((rows.length:Int)=f.st)&&decide rows.flatten.Nodup)&&rows.all (fY f)
theorem xj{k:Nat}{A:bC}(hr:fM k A):A.units+65 < cLine:=by have:=hr.un; omega
theorem oY{r:List Int}{k:Nat}{z:Int}(h:k < r.length)(e:z=(k:Int)):uw (r.map D.int) z=some (.int (r.getD k 0)):=by
 rw [vV,rd e h,ao,ah h]
 rfl
theorem o9(p:Int×Int)(bs:List (Int×Int)):inD (pD p) (bs.map pD)=decide (p∈bs):=by
 induction bs with
 | nil=>rfl
 | cons b bs ih=>
  show(D.eqv (pD b) (pD p) || inD (pD p) (bs.map pD))=_
  rw [ih]
  have e:D.eqv (pD b) (pD p)=decide (p=b):=by
   obtain⟨b1,b2⟩:=b
   obtain⟨p1,p2⟩:=p
   simp only [D.eqv,pD,D.pd,D.pds,jf,eM,jm]
   by_cases h:p1=b1/\p2=b2
   ·obtain⟨rfl,rfl⟩:=h; simp
   ·rw [decide_eq_false (by simpa using h)]
    simp only [i8,beq_eq_false_iff_ne]
    by_cases h1:p1=b1
    ·exact .inr fun z=>h ⟨h1,z.symm⟩
    ·exact .inl fun z=>h1 z.symm
  rw [e]
  by_cases h:p=b <;> simp [h]
theorem vw(n:Nat)(p:Int×Int):D.flat (n+1) (pD p):=by
 intro d hd
 rcases aO.mp hd with rfl | hd
 ·cases n <;> exact trivial
 ·rw [aK.mp hd]; cases n <;> exact trivial
theorem xi{n:Nat}{bs:List (Int×Int)}: ∀d∈bs.map pD,D.flat (n+1) d:=fun d hd=>by
 obtain⟨p,_,rfl⟩:=aQ.mp hd
 exact vw n p
def bB(t:Bool)(rows:List (List Int)):List D:=rows.map fun r=>xN t (r.map .int)
theorem Dw:bQ ["floor","standing","crates","stack","k"] ["floor","standing"] (aL E4):=⟨rfl,rfl,rfl,by decide +kernel,rfl,by decide +kernel,by decide +kernel⟩
abbrev Ea(P:av)(w:World)(K:Frag)(mg:Str->Option Value)(base:Heap)(CX:gM):Prop:=
 jU P w K mg base CX 1 "_law_good" (fun i:c_×Bool×List (List Int)=> [i.1.d,xN i.2.1 (bB i.2.1 i.2.2)]) (fun i=>i.2.2.flatten.length < 4000/\i.2.2.length < 4000) (fun i=> .ok (.bl (good i.1 i.2.2)))
theorem mK{rows:List (List Int)}{r:List Int}(h:r∈rows):r.length<=rows.flatten.length:=by
 induction rows with
 | nil=>cases h
 | cons a rows ih=>
  rw [cL,aw]
  rcases aO.mp h with rfl | h
  ·omega
  ·have:=ih h; omega
theorem pv{rows:List (List Int)}{i:Nat}{r:List Int}(h:rows[i]? =some r):(rows.take (i+1)).flatten=(rows.take i).flatten ++ r:=by
 rw [ft,h,C7]
 simp
theorem kf(rows:List (List Int))(i:Nat):(rows.take i).flatten.length<=rows.flatten.length:=by
 have e:rows.flatten=(rows.take i).flatten ++ (rows.drop i).flatten:=by rw [<-C7,aX]
 rw [e,aw]; omega
theorem gJ{t:Bool}{rows:List (List Int)}{i:Nat}{d:D}(h:(bB t rows)[i]? =some d): ∃r,rows[i]? =some r/\d=xN t (r.map .int):=by
 unfold bB at h
 rw [aj]at h
 cases e:rows[i]? with
 | none=>rw [e]at h; cases h
 | some r=>rw [e]at h; exact⟨r,rfl,(aA h).symm⟩
theorem HM{f:Addr}{fd:bg}(nx:NX CX)(B:Bn mg)(F:ji K "_law_good" "_law_good" E4 f fd)(hm:mg "_law_good"=some (.ref f))(hb:Binds K fd ["floor","standing"] []):Ea P w K mg base CX:=by
 refine fN F Dw hm hb (fun i=>rfl) fun cdv A outer s H E i M0 hp hr=>⟨_,rfl, ?_⟩
 obtain⟨fl,t,rows⟩:=i
 obtain⟨hp1,hp2⟩:rows.flatten.length < 4000/\rows.length < 4000:=hp
 have px:=Dw.nd
 have hlen:(bB t rows).length=rows.length:=ae ..
 refine WS.cons (W1.setF (i:=2) px rfl (.inl rfl) (g9 rfl) (ef.lst bp.nil) ?_)
 refine WS.cons (W1.for (ds:=bB t rows) (fun i ρ=> ∃a b,ρ= [.im fl.d, .im (xN t (bB t rows)), .mu ((rows.take i).flatten.map .int),a,b]) cy rfl (ja.seq (nm 1 rfl rfl)) ⟨_,_,by rw [iT]; rfl⟩ ?_ ?_)
 ·rintro i d ρ hd ⟨a,b,rfl⟩
  obtain⟨r,hr',rfl⟩:=gJ hd
  have l1:=kf rows i
  have l2:=mK (aT hr')
  refine⟨_,yS.name (i:=3) px rfl (.inl rfl) (g9 rfl), ?_⟩
  refine WS.one (W1.extend (i:=2) (fs:=r.map .int) rfl (.inl rfl) rfl (ef.toD (ef.listS rfl B.list (nm 3 rfl rfl))) rfl (by rw [ae,ae]; omega) ?_ ⟨rfl,rfl,rfl,rfl⟩)
  dsimp only
  rw [pv hr',bD]
  exact⟨_,_,rfl⟩
 rintro ρ ⟨a,b,rfl⟩
 rw [hlen,eO]
 refine WS.cons (W1.ite (i6.t (i6.or (c8.cI .ne (az.lenS rfl B.len (nm 1 rfl rfl)) (az.ixT (nm 0 rfl rfl) az.int rfl)) fun _=>i6.or1 (c8.cI .lt (az.lenSet rfl rfl B.len rfl B.set (BF 2 rfl rfl) hp1) (az.lenL rfl B.len (BF 2 rfl rfl))))) (fun h=> ?_) fun h=> ?_)
 ·refine WS.one (W1.ret az.bl ?_)
  rw [hlen,ae]at h
  have:good fl rows=false:=by
   unfold good
   by_cases h1:(rows.length:Int)=fl.st
   ·have h2: ¬rows.flatten.Nodup:=fun z=>by
     rw [decide_eq_true h1,eN,Bool.false_or,(A7 _).mpr z]at h
     have:=of_decide_eq_true h
     omega
    rw [decide_eq_false h2,iR,fR]
   ·rw [decide_eq_false h1,fR,fR]
  show D.bl false=D.bl (good fl rows)
  rw [this]
 refine WS.nil ?_
 rw [hlen,ae,Bool.or_eq_false_iff]at h
 have g1:(rows.length:Int)=fl.st:=by simpa using h.1
 have g2:rows.flatten.Nodup:=(A7 _).mp (by
  have h2:=of_decide_eq_false h.2
  have:=Kx rows.flatten
  omega)
 refine WS.cons (W1.for (ds:=bB t rows) (fun i ρ=>(rows.take i).all (fY fl)=true/\ ∃a b,ρ= [.im fl.d, .im (xN t (bB t rows)), .mu (rows.flatten.map .int),a,b]) cy rfl (ja.seq (nm 1 rfl rfl)) ⟨by rw [iT]; rfl,_,_,rfl⟩ ?_ ?_)
 ·rintro i d ρ hd ⟨hall,a,b,rfl⟩
  obtain⟨r,hr',rfl⟩:=gJ hd
  have l2:=mK (aT hr')
  have bad:fY fl r=false->good fl rows=false:=fun hf=>by
   unfold good
   have:rows.all (fY fl)=false:=by
    rw [Ge]
    exact⟨r,aT hr',by rw [hf]; exact aC⟩
   rw [this,iR]
  refine⟨_,yS.name (i:=3) px rfl (.inl rfl) (g9 rfl), ?_⟩
  refine WS.cons (W1.ite (c8.cI .gt (az.lenS rfl B.len (nm 3 rfl rfl)) (az.ixT (nm 0 rfl rfl) az.int rfl)) (fun h3=> ?_) fun h3=>WS.nil ?_)
  ·refine WS.one (W1.ret az.bl ?_)
   have h4:=of_decide_eq_true h3
   rw [ae]at h4
   show D.bl false=D.bl (good fl rows)
   rw [bad (by unfold fY; rw [decide_eq_false (by omega),fR])]
  have h4:=of_decide_eq_false h3
  rw [ae]at h4
  refine WS.one (W1.for (ds:=kg 0 r.length) (fun j ρ=>(bE j).all (tU fl r)=true/\ ∃b,ρ= [.im fl.d, .im (xN t (bB t rows)), .mu (rows.flatten.map .int), .im (xN t (r.map .int)),b]) cy rfl
   (ja.to (ja.range rfl B.range (az.lenS rfl B.len (nm 3 rfl rfl)) (by rw [ae]; omega)) (by rw [ae]; rfl)) ⟨rfl,_,rfl⟩ ?_ ?_)
  ·rintro j d ρ hd2 ⟨hall2,b,rfl⟩
   obtain⟨rfl,hj⟩:=jK hd2
   refine⟨_,yS.name (i:=4) px rfl (.inl rfl) (g9 rfl), ?_⟩
   have z0:(0:Int)+(j:Int)=(j:Int):=by omega
   refine WS.one (W1.ite (i6.t (i6.or (c8.not (c8.chain .le .le az.int (az.ixS (nm 3 rfl rfl) (nm 4 rfl rfl) (oY hj z0)) az.int)) fun _=>i6.or1 (i6.t (i6.and (c8.cI .gt (nm 4 rfl rfl) az.int) fun hz=>i6.and1
    (c8.inL (da:=pD (r.getD j 0,r.getD (j - 1) 0)) (ds:=fl.eE.map pD) (xj hr) (az.r (az.tup (bp.cons (az.ixS (nm 3 rfl rfl) (nm 4 rfl rfl) (oY hj z0)) (bp.cons (az.ixS (nm 3 rfl rfl) (az.sub (nm 4 rfl rfl) az.int) (oY (k:=j - 1) (by omega) (by have:=of_decide_eq_true hz; omega))) bp.nil))))
     (az.r (az.ixT (nm 0 rfl rfl) az.int rfl)) (vw 59 _) xi))))) (fun h5=> ?_) fun h5=> ?_)
   ·refine WS.one (W1.ret az.bl ?_)
    show D.bl false=D.bl (good fl rows)
    rw [bad]
    unfold fY
    have:(bE r.length).all (tU fl r)=false:=by
     rw [Ge]
     refine⟨j,dh.mpr hj, ?_⟩
     unfold tU
     rw [o9,z0]at h5
     simp only [ud,fu,bA,decide_eq_true_eq]at h5
     simp only [bA,fu,decide_eq_true_eq,i8,decide_eq_false_iff_not]
     rintro⟨⟨q1,q2⟩,q3⟩
     rcases h5 with h5 | ⟨h5,h6⟩
     ·rw [decide_eq_true q1,decide_eq_true q2]at h5; cases h5
     ·rcases q3 with q3 | q3
      ·exact q3 (by omega)
      ·exact q3 h6
    rw [this,iR]
   ·refine WS.nil ⟨?_,_,rfl⟩
    rw [mY,ue,hall2]
    rw [o9,z0]at h5
    show(tU fl r j&&true)=true
    rw [jm]
    unfold tU
    simp only [Bool.or_eq_false_iff,Bool.not_eq_false',i8,decide_eq_false_iff_not]at h5
    obtain⟨h5,h6⟩:=h5
    rw [h5,fF]
    simp only [fu,i8,decide_eq_false_iff_not]
    rcases h6 with h6 | h6
    ·exact .inl fun z=>h6 (by omega)
    ·exact .inr h6
  ·rintro ρ ⟨hall2,b,rfl⟩
   rw [gT]at hall2
   refine⟨?_,_,_,rfl⟩
   rw [ft,hr',ue,hall]
   show(fY fl r&&true)=true
   rw [jm]
   unfold fY
   rw [hall2,decide_eq_true (by omega)]
   rfl
 ·rintro ρ ⟨hall,a,b,rfl⟩
  rw [hlen,eO]at hall
  refine WS.one (W1.ret az.bl ?_)
  show D.bl true=D.bl (good fl rows)
  unfold good
  rw [hall,decide_eq_true g1,decide_eq_true g2]
  rfl
end
def gH(f:c_)(cell:Int)(st:List (List Int)×Option Int)(k:Nat):List (List Int)×Option Int:=
 match st.2 with
 | none=>st
 | some c=>
  let n:=((cell / 61+k) % f.st).toNat
  let wider:=st.1.set n (st.1.getD n [] ++ [c])
  if good f wider then(wider,none)else st
def place(f:c_)(cell:Int)(rows:List (List Int))(c:Int)(n:Nat):List (List Int)×Option Int:=(bE n).foldl (gH f cell) (rows,some c)
def nK(f:c_):Nat->Int->List (List Int)->List Int->List (List Int)
 | 0,_,rows,_=>rows
 | m+1,cell,rows,left=>
  let cell':=(cell * 48271+17) % 2147483647
  let i:=(cell' / 7 % left.length).toNat
  nK f m cell' (place f cell' rows (left.getD i 0) f.st.toNat).1 (left.eraseIdx i)
def eC(f:c_)(cell:Int)(crates:List Int):List (List Int):=nK f crates.length cell (eR f.st.toNat []) crates
def MN:Option Int->D
 | none=> .non
 | some c=> .int c
theorem nD(f:c_)(cell:Int)(rows:List (List Int))(c:Int)(n:Nat):place f cell rows c (n+1)=gH f cell (place f cell rows c n) n:=by
 unfold place
 rw [mY,List.foldl_append]
 rfl
theorem oy{rows:List (List Int)}{n:Nat}{r:List Int}{k:Nat}(h:r.length<=(rows.getD n []).length+k):(rows.set n r).flatten.length<=rows.flatten.length+k:=by
 induction rows generalizing n with
 | nil=>simp
 | cons a rows ih=>
  cases n with
  | zero=>
   rw [List.set_cons_zero,cL,cL,aw,aw]
   have:(List.getD (a::rows) 0 []).length=a.length:=rfl
   omega
  | succ n=>
   rw [FW,cL,cL,aw,aw]
   have:=ih (n:=n) (by simpa using h)
   omega
theorem tJ(f:c_)(cell:Int)(st:List (List Int)×Option Int)(k:Nat):(gH f cell st k).1.length=st.1.length/\(gH f cell st k).1.flatten.length+(if(gH f cell st k).2.isSome then 1 else 0)<=st.1.flatten.length+(if st.2.isSome then 1 else 0):=by
 obtain⟨rows,oc⟩:=st
 cases oc with
 | none=>exact⟨rfl,ay _⟩
 | some c=>
  unfold gH
  dsimp only
  split
  ·refine⟨bo .., ?_⟩
   have:=oy (rows:=rows) (n:=((cell / 61+k) % f.st).toNat) (r:=rows.getD ((cell / 61+k) % f.st).toNat [] ++ [c]) (k:=1) (by rw [aw]; exact ay _)
   simpa using this
  ·exact⟨rfl,ay _⟩
theorem place_len(f:c_)(cell:Int)(rows:List (List Int))(c:Int): ∀n,(place f cell rows c n).1.length=rows.length/\(place f cell rows c n).1.flatten.length+(if(place f cell rows c n).2.isSome then 1 else 0)<=rows.flatten.length+1
 | 0=>⟨rfl,ay _⟩
 | n+1=>by
  obtain⟨a,b⟩:=place_len f cell rows c n
  obtain⟨a',b'⟩:=tJ f cell (place f cell rows c n) n
  rw [nD]
  exact⟨a'.trans a,bj b' b⟩
theorem uX{α β:Type}(g:α->β): ∀(l:List α) (n:Nat),(l.map g).eraseIdx n=(l.eraseIdx n).map g
 | [],_=>rfl
 | _::_,0=>rfl
 | a::l,n+1=>by rw [aY,yZ,yZ,aY,uX g l n]
def Ip(i:Nat)(ρ:eZ):Nat:=match ρ[i]? with
 | some (Sl.mu ds)=>ds.length
 | _=>0
theorem uD{t:Bool}{rows:List (List Int)}{n:Nat}{r:List Int}:bB t (rows.set n r)=(bB t rows).set n (xN t (r.map .int)):=by
 unfold bB
 rw [Am]
theorem fA{t:Bool}{rows:List (List Int)}:(bB t rows).length=rows.length:=ae ..
theorem qI(ns:List Int):D.eqv (.lst (ns.map .int)) (.lst [])=decide (ns= []):=by cases ns <;> rfl
theorem uQ{n:Nat}{ns:List Int}:D.flat (n+1) (.lst (ns.map .int)):=fun d hd=>by
 obtain⟨i,_,rfl⟩:=aQ.mp hd
 cases n <;> exact trivial
section
variable {P:av}{w:World}{K:Frag}{mg:Str->Option Value}{base:Heap}{CX:gM}
theorem rE:bQ ["floor","cell","crates","rows","left","crate","k","spot","wider"] ["floor","cell","crates"] (aL mH):=⟨rfl,rfl,rfl,by decide +kernel,rfl,by decide +kernel,by decide +kernel⟩
abbrev ph(P:av)(w:World)(K:Frag)(mg:Str->Option Value)(base:Heap)(CX:gM):Prop:=
 jU P w K mg base CX 2 "_law_standing" (fun i:c_×Int×List Int=> [i.1.d, .int i.2.1, .lst (i.2.2.map .int)]) (fun i=>2<=i.1.st/\i.1.st<=4/\i.2.2.length<=100) (fun i=> .ok (.tup (bB true (eC i.1 i.2.1 i.2.2))))
theorem yD{f:Addr}{fd:bg}(nx:NX CX)(B:Bn mg)(G1:Ea P w K mg base CX)(F:ji K "_law_standing" "_law_standing" mH f fd)(hm:mg "_law_standing"=some (.ref f))(hb:Binds K fd ["floor","cell","crates"] []):ph P w K mg base CX:=by
 refine fN F rE hm hb (fun i=>rfl) fun cdv A outer s H E i M0 hp hr=>⟨_,rfl, ?_⟩
 obtain⟨fl,cell0,crates⟩:=i
 obtain⟨hp1,hp2,hp3⟩:2<=fl.st/\fl.st<=4/\crates.length<=100:=hp
 have px:=rE.nd
 change WS _ M0 H (bt mH) [.im fl.d, .im (.int cell0), .im (.lst (crates.map .int)), .un, .un, .un, .un, .un, .un] {N:=fun _=>D.tup (bB true (eC fl cell0 crates))= .non,R:=fun d'=>d'= .tup (bB true (eC fl cell0 crates))}
 refine WS.cons (W1.comp (i:=3) (es:=bB false (eR fl.st.toNat [])) (cs:= []) (dE.closed (by decide +kernel) (by decide +kernel) rfl (by decide +kernel) rfl) rfl (by decide +kernel) (ja.range rfl B.range (az.ixT (nm 0 rfl rfl) az.int rfl) (by omega)) r6 (by rw [gT,fA,i7]) (by rw [gT]; omega) ?_ px rfl rfl (g9 rfl) ?_)
 ·intro C s₀ H₀ fp pins i d e h1 h2
  obtain⟨r,hr',rfl⟩:=gJ h2
  have:r= []:=by
   rw [yX]at hr'
   split at hr'
   ·exact(aA hr').symm
   ·cases hr'
  subst this
  exact ef.toD (ef.lst bp.nil)
 refine WS.freeze (i:=3) rfl ?_
 refine WS.cons (W1.setF (i:=4) px rfl (.inl rfl) (g9 rfl) (ef.listL rfl B.list (az.r (nm 2 rfl rfl))) ?_)
 refine WS.cons (W1.while (fun ρ=> ∃cell rows left a b c d,ρ= [.im fl.d, .im (.int cell), .im (.lst (crates.map .int)), .im (.lst (bB false rows)), .mu (left.map .int),a,b,c,d]/\(rows.length:Int)=fl.st/\rows.flatten.length+left.length<=100/\nK fl left.length cell rows left=eC fl cell0 crates)
  (Ip 4) cy ⟨cell0,eR fl.st.toNat [],crates,_,_,_,_,rfl,by rw [i7]; omega,by simpa using hp3,rfl⟩ ?_)
 rintro ρ ⟨cell,rows,left,a,b,c,d,rfl,hl,hsz,hrun⟩
 refine⟨_,c8.ne (Gf (xj hr)) (BF 4 rfl rfl) (az.r (ef.toD (ef.lst bp.nil))) uQ (fun _ h=>by cases h),fun h=> ?_,fun h=> ?_⟩
 ·rw [qI]at h
  have hne:left≠ []:=by simpa using h
  obtain⟨m,hm⟩: ∃m,left.length=m+1:=⟨left.length - 1,by have:=List.length_pos_iff.mpr hne; omega⟩
  rw [hm]at hrun
  refine WS.cons (W1.set (i:=1) px rfl (.inl rfl) (g9 rfl) (az.mod (az.add (az.mul (nm 1 rfl rfl) az.int (.inr ⟨by decide,by decide⟩)) az.int) az.int (by decide)) ?_)
  generalize hc:(cell * 48271+17) % 2147483647=cell'
  have hi0:0<=cell' / 7 % (left.length:Int):=gn _ (by omega)
  have hi1:cell' / 7 % (left.length:Int) < left.length:=eT _ (by omega)
  generalize hix:(cell' / 7 % (left.length:Int)).toNat=ix
  have hlt:ix < left.length:=by omega
  refine WS.cons (W1.popAt (i:=4) (j:=5) (n:=ix) (d:= .int (left.getD ix 0)) px rfl (.inl rfl) rfl rfl (.inl rfl) (g9 rfl) (by decide) (az.mod (az.fdiv (nm 1 rfl rfl) az.int ⟨by decide,by decide⟩) (az.lenL rfl B.len (BF 4 rfl rfl)) (by rw [ae]; omega)) (by rw [ae]; omega)
   (by rw [aj,ah hlt,ao,ah hlt]; rfl) (by omega) ?_ ⟨rfl,rfl,rfl,rfl⟩)
  have heras:(left.map D.int).eraseIdx ix=(left.eraseIdx ix).map D.int:=uX ..
  rw [heras]
  have hlen2:(left.eraseIdx ix).length+1=left.length:=by rw [kq hlt]; omega
  refine WS.one (W1.for (ds:=kg 0 fl.st.toNat) (fun j ρ=> ∃x y z,ρ= [.im fl.d, .im (.int cell'), .im (.lst (crates.map .int)), .im (.lst (bB false (place fl cell' rows (left.getD ix 0) j).1)), .mu ((left.eraseIdx ix).map .int), .im (MN (place fl cell' rows (left.getD ix 0) j).2),x,y,z]) cy rfl
   (ja.range rfl B.range (az.ixT (nm 0 rfl rfl) az.int rfl) (by omega)) ⟨_,_,_,rfl⟩ ?_ ?_)
  ·rintro j d ρ hd ⟨x,y,z,rfl⟩
   obtain⟨rfl,hj⟩:=jK hd
   obtain⟨pl1,pl2⟩:=place_len fl cell' rows (left.getD ix 0) j
   rw [nD]
   generalize place fl cell' rows (left.getD ix 0) j=st at pl1 pl2
   obtain⟨rw1,oc⟩:=st
   dsimp only at pl1 pl2 ⊢
   refine⟨_,yS.name (i:=6) px rfl (.inl rfl) (g9 rfl), ?_⟩
   have s0:0<=(cell' / 61+(0+(j:Int))) % fl.st:=gn _ (by omega)
   have s1:(cell' / 61+(0+(j:Int))) % fl.st < fl.st:=eT _ (by omega)
   refine WS.cons (W1.set (i:=7) px rfl (.inl rfl) (g9 rfl) (az.mod (az.add (az.fdiv (nm 1 rfl rfl) az.int ⟨by decide,by decide⟩) (nm 6 rfl rfl)) (az.ixT (nm 0 rfl rfl) az.int rfl) (by omega)) ?_)
   have z0:(0:Int)+(j:Int)=(j:Int):=by omega
   rw [z0]at s0 s1 ⊢
   cases oc with
   | none=>exact WS.one (W1.ite (c8.notN (az.r (nm 5 rfl rfl))) (fun h=>by cases h) fun h=>WS.nil ⟨_,_,_,rfl⟩)
   | some c=>
    refine WS.one (W1.ite (c8.notN (az.r (nm 5 rfl rfl))) (fun _=> ?_) fun h=>by cases h)
    have s2:((cell' / 61+(j:Int)) % fl.st).toNat < rw1.length:=by omega
    have s3:(cell' / 61+(j:Int)) % fl.st=(((cell' / 61+(j:Int)) % fl.st).toNat:Int):=by omega
    unfold gH
    dsimp only
    generalize ((cell' / 61+(j:Int)) % fl.st).toNat=sp at s2 s3
    have rl:=mK (rows:=rw1) (r:=rw1.getD sp []) (by rw [ao,ah s2]; exact aR s2)
    have fl2:rw1.flatten.length+1<=rows.flatten.length+1:=by simpa using pl2
    refine WS.cons (W1.setF (i:=8) px rfl (.inl rfl) (g9 rfl) (ef.listL rfl B.list (az.r (nm 3 rfl rfl))) ?_)
    refine WS.cons (W1.setIx (i:=8) (n:=sp) rfl (.inl rfl) rfl (ef.toD (ef.cat (ds:=(rw1.getD sp []).map .int) (az.r (az.ixL (az.r (nm 3 rfl rfl)) (nm 7 rfl rfl) (by
      unfold bB
      rw [vV,rd s3 s2,ao,ah s2]
      rfl))) (az.r (ef.toD (ef.lst (bp.cons (nm 5 rfl rfl) bp.nil)))) (by rw [ae,eY]; omega))) (nm 7 rfl rfl) s3 (by rw [fA]; exact s2) ?_)
    have hset:(bB false rw1).set sp (.lst ((rw1.getD sp []).map .int ++ [D.int c]))=bB false (rw1.set sp (rw1.getD sp [] ++ [c])):=by
     rw [uD,bD]; rfl
    have hset':((bB false rw1).set sp (.lst ((rw1.getD sp []).map .int ++ [MN (some c)])))=bB false (rw1.set sp (rw1.getD sp [] ++ [c])):=hset
    rw [hset']
    have fl3:=oy (rows:=rw1) (n:=sp) (r:=rw1.getD sp [] ++ [c]) (k:=1) (by rw [aw]; exact ay _)
    have q1:(rw1.set sp (rw1.getD sp [] ++ [c])).flatten.length < 4000:=by omega
    have q2:(rw1.set sp (rw1.getD sp [] ++ [c])).length < 4000:=by rw [bo]; omega
    refine WS.one (W1.ite (c8.val (az.callR G1 hr (bb nx) rfl (fl,false,rw1.set sp (rw1.getD sp [] ++ [c])) (s9.cons (az.r (nm 0 rfl rfl)) (s9.one (BF 8 rfl rfl))) ⟨q1,q2⟩ rfl trivial)) (fun hg=> ?_) fun hg=> ?_)
    ·refine WS.freeze (i:=8) rfl (WS.cons (W1.set (i:=3) px rfl (.inl rfl) (g9 rfl) (nm 8 rfl rfl) ?_))
     refine WS.one (W1.set (i:=5) px rfl (.inl rfl) (g9 rfl) az.non ?_)
     rw [if_pos hg]
     exact⟨_,_,_,rfl⟩
    ·refine WS.nil ?_
     have hg': ¬good fl (rw1.set sp (rw1.getD sp [] ++ [c]))=true:=by rw [show good fl (rw1.set sp (rw1.getD sp [] ++ [c]))=false from hg]; exact aC
     dsimp only
     rw [if_neg hg']
     exact⟨_,_,_,rfl⟩
  ·rintro ρ ⟨x,y,z,rfl⟩
   rw [gT]
   obtain⟨pl1,pl2⟩:=place_len fl cell' rows (left.getD ix 0) fl.st.toNat
   refine⟨⟨cell',(place fl cell' rows (left.getD ix 0) fl.st.toNat).1,left.eraseIdx ix,_,_,_,_,rfl,by rw [pl1]; exact hl,by omega, ?_⟩, ?_⟩
   ·rw [<-hrun]
    have:(left.eraseIdx ix).length=m:=by omega
    rw [this]
    show _=nK fl m ((cell * 48271+17) % 2147483647) (place fl ((cell * 48271+17) % 2147483647) rows (left.getD ((cell * 48271+17) % 2147483647 / 7 % left.length).toNat 0) fl.st.toNat).1 (left.eraseIdx ((cell * 48271+17) % 2147483647 / 7 % left.length).toNat)
    rw [hc,hix]
   ·show((left.eraseIdx ix).map D.int).length < (left.map D.int).length
    rw [ae,ae]
    omega
 ·rw [qI]at h
  have hnil:left= []:=by simpa using h
  subst hnil
  have e:rows=eC fl cell0 crates:=hrun
  subst e
  refine WS.one (W1.ret (az.tupleL rfl B.tuple (az.r (ef.toD (ef.comp (es:=bB true (eC fl cell0 crates)) (cs:= []) (dE.closed (by decide +kernel) (by decide +kernel) rfl (by decide +kernel) rfl) rfl (by decide +kernel) (ja.list (nm 3 rfl rfl)) r6 (by rw [fA,fA]) (by rw [fA]; omega) ?_)))) rfl)
  intro C s₀ H₀ fp pins i d e h1 h2
  obtain⟨r,hr1,rfl⟩:=gJ h1
  obtain⟨r2,hr2,rfl⟩:=gJ h2
  rw [hr1]at hr2
  cases hr2
  exact az.tupleS (t:=false) rfl B.tuple (nm 0 rfl rfl)
end
end K
namespace Z
open PySem PySem.Spec PyProof.Rows L2
section
variable {X:Cx}{ρ:eZ}{M0:MP}{H0:Hp}{P:pE}{e a b:Expr}{d:D}{ds:List D}{pos p:Pos}
theorem xX{K:Frag}{M:MP}{H:Hp}{bs:List Bool}{xs:List V}{its:List Value}(h:cE K M H (bs.map .bl) xs)(r:Vals xs its):its=bs.map fC:=by
 induction bs generalizing xs its with
 | nil=>cases (show xs= []from h); cases r; rfl
 | cons b bs ih=>
  obtain⟨v,t,rfl,h1,h2⟩:=h
  cases r with
  | cons r1 r2=>
   cases (show v= .bl b from h1)
   rw [aY,ih h2 r2,show _=fC b from r1]
theorem qc(bs:List Bool)(tr:Nat->Bool)(h: ∀i b,bs[i]? =some b->tr i=b):(bE bs.length).all tr=bs.all id/\(bE bs.length).any tr=bs.any id:=by
 have e:(bE bs.length).map tr=bs:=by
  apply cA
  intro i
  rw [aj]
  by_cases hi:i < bs.length
  ·rw [jS hi,ah hi]
   exact congrArg some (h i _ (ah hi))
  ·rw [aI (by rw [bT]; omega),aI (by omega)]
   rfl
 constructor
 ·rw [<-e,jY,e]; rfl
 ·rw [<-e,List.any_map,e]; rfl
theorem p7{A:bC}(bs:List Bool):TruthOf X.prog X.w A (fun i v=>(bs.map fC)[i]? =some v) (fun i=>bs.getD i false):=fun i v s Q E h k=>by
 dsimp only at h k
 rw [aj]at h
 cases e:bs[i]? with
 | none=>rw [e]at h; cases h
 | some b=>
  rw [e]at h
  cases h
  rw [ao,e]at k
  exact fi k
theorem BX(hc:X.calm=true):gz X (.builtin "all") (fun xs H Q=> ∃(q:Addr) (M:MP) (bs:List Bool),xs= [.ref q]/\oC X.K M H (.lst (bs.map .bl)) (.ref q)/\Q (.bl (bs.all id)) H):=by
 intro pins s σ H xs us Q I r ⟨q,M,bs,e,hq,k⟩
 subst e
 obtain⟨u,rfl,rx⟩:=vals1 r
 cases rx
 obtain⟨q',ys,eq,sq,dn⟩:=hq
 cases eq
 obtain⟨its,r',pl,hz⟩:=I.list sq
 have hb:=xX dn r'
 subst hb
 have hlt:q < s.heap.objs.size:=by obtain⟨o,n,e,_⟩:=pl; exact au e
 refine call_all_walk (kX pl.isList ?_)
 refine⟨_,_,_,_,_,_,fun i=>bs.getD i false,rfl,Walks.list (by simp [I.ok.hd hc]) s.heap.objs.size q (aF hlt) _,⟨⟨_,ar _ rfl,rfl,rfl⟩,pl.isList.push _⟩, ?_,fun h' tk hk=> ?_⟩
 ·have:=p7 (X:=X) (A:=X.A.in1) bs
  intro i v s Q E h
  exact this i v s Q E (by rw [nh]at h; exact h)
 ·refine⟨.bl (bs.all id),H,I.kept (t':=tk) (fun b o e=>hk b o (by intro z; rw [aK.mp z]at e; exact absurd (au e) (df _)) (af _ e)), ?_,k⟩
  show _=fC _
  rw [aB,ae,(qc bs _ fun i b h=>by rw [ao,h]; rfl).1]
theorem BA(hc:X.calm=true):gz X (.builtin "any") (fun xs H Q=> ∃(q:Addr) (M:MP) (bs:List Bool),xs= [.ref q]/\oC X.K M H (.lst (bs.map .bl)) (.ref q)/\Q (.bl (bs.any id)) H):=by
 intro pins s σ H xs us Q I r ⟨q,M,bs,e,hq,k⟩
 subst e
 obtain⟨u,rfl,rx⟩:=vals1 r
 cases rx
 obtain⟨q',ys,eq,sq,dn⟩:=hq
 cases eq
 obtain⟨its,r',pl,hz⟩:=I.list sq
 have hb:=xX dn r'
 subst hb
 have hlt:q < s.heap.objs.size:=by obtain⟨o,n,e,_⟩:=pl; exact au e
 refine call_any_walk (kX pl.isList ?_)
 refine⟨_,_,_,_,_,_,fun i=>bs.getD i false,rfl,Walks.list (by simp [I.ok.hd hc]) s.heap.objs.size q (aF hlt) _,⟨⟨_,ar _ rfl,rfl,rfl⟩,pl.isList.push _⟩, ?_,fun h' tk hk=> ?_⟩
 ·have:=p7 (X:=X) (A:=X.A.in1) bs
  intro i v s Q E h
  exact this i v s Q E (by rw [nh]at h; exact h)
 ·refine⟨.bl (bs.any id),H,I.kept (t':=tk) (fun b o e=>hk b o (by intro z; rw [aK.mp z]at e; exact absurd (au e) (df _)) (af _ e)), ?_,k⟩
  show _=fC _
  rw [aB,ae,(qc bs _ fun i b h=>by rw [ao,h]; rfl).2]
theorem az.all{bs:List Bool}(hc:X.calm=true)(hg:Gl X "all")(hm:X.mg "all"=none)(h:kT X ρ e (.lst (bs.map .bl)))(he:ax [e] X.env= [(false,eval e X.env)]:=by rfl):az X ρ (.Call (.Name "all" p) [e] [] pos) (.bl (bs.all id)):=
 az.callB (BX hc) hg hm (by decide +kernel) (s9.one h he) (fun M H vs Q dn k=>by
  obtain⟨v,r,rfl,e1,e2⟩:=dn
  cases e2
  obtain⟨q,xs,rfl,sq,z⟩:=id e1
  exact⟨q,M,bs,rfl,e1,k _ H (bP.refl _) rfl⟩) (he:=he)
theorem az.any{bs:List Bool}(hc:X.calm=true)(hg:Gl X "any")(hm:X.mg "any"=none)(h:kT X ρ e (.lst (bs.map .bl)))(he:ax [e] X.env= [(false,eval e X.env)]:=by rfl):az X ρ (.Call (.Name "any" p) [e] [] pos) (.bl (bs.any id)):=
 az.callB (BA hc) hg hm (by decide +kernel) (s9.one h he) (fun M H vs Q dn k=>by
  obtain⟨v,r,rfl,e1,e2⟩:=dn
  cases e2
  obtain⟨q,xs,rfl,sq,z⟩:=id e1
  exact⟨q,M,bs,rfl,e1,k _ H (bP.refl _) rfl⟩) (he:=he)
end
theorem C_(l b:Addr)(xs ys:Array Value)(n m:Nat)(dd de:Option Addr)(sl tl:Array (Option Value))(h0:xs.isEmpty=true):
  Meets (cP.«tuple.__add__» ⟨[.ref l, .ref b], []⟩) (fun _ R s=>s.heap.get? l=some {cls:= .type "tuple",dict:=dd,data:= .seq xs n,slots:=sl}/\s.heap.get? b=some {cls:= .type "tuple",dict:=de,data:= .seq ys m,slots:=tl}/\
   R (.ok (.ret (aq b))) {s with heap:=s.heap,toks:=s.toks}):=
 .of_wp fun prog w A R s h=>by
  obtain⟨hp,g,d,tk,os⟩:=s
  obtain⟨hl,hb,h⟩:=h
  have f2:=hG
  wp_walk using cq hl,cq hb
  exact⟨_,rfl,h⟩
theorem HA{prog:av}{w:World}{A:bC}{E:Value->ai->Prop}{s:ai}{t sl:Addr}{items:Array Value}{vl vu:Value}{lo hi:Option Int}{Q:Value->ai->Prop}(ht:IsTup s.heap t items)(hs:s.heap.IsSliceOf sl vl vu .none)(pl:pS vl lo)(pu:pS vu hi)
  (hw:HT.g7 items.size 0 lo=0/\HT.g7 items.size items.size hi=items.size)(h:Q (.ref t) s):wpAny (model prog w) A (u0 (.ref t) (.ref sl)) Q E s:=by
 obtain⟨os,hos,hcs,hds⟩:=id hs
 have hTs:s.TypeIs (.ref sl) "slice":=⟨os,hos,hcs⟩
 unfold u0
 try with_reducible refine bq ?_
 first | refine aa (ag ?_) | skip
 refine aa (wpAny_sequenceKey ht.typeIs (by decide) ?_)
 refine aa (bM (name:=dP "__getitem__") ht.typeIs dF
  (bh dF ht.typeIs entry_tuple_getitem ?_ (args_tuple_getitem _ _)))
 show wpAny _ _ (wD (.ref t) >>=_) _ _ s
 refine aa (tupleItemsOf_ ht ?_)
 refine aa (fj hTs ?_)
 rw [if_pos (by decide)]
 refine aa (HT.kG hs pl pu ?_)
 have hyes:((((HT.g7 items.size 0 lo:Nat):Int)==0&&(1:Int)==1&&(HT.g7 items.size items.size hi - HT.g7 items.size 0 lo)==items.size)=true):=by
  rw [hw.1,hw.2]; simp
 show wpAny _ _ (if(((HT.g7 items.size 0 lo:Nat):Int)==0&&(1:Int)==1&&(HT.g7 items.size items.size hi - HT.g7 items.size 0 lo)==items.size)=true then _ else _) _ _ s
 rw [if_pos hyes]
 unfold Builtin.Tuple.tupleIsExact
 refine aa (aa (fj ht.typeIs (ag ?_)))
 rw [if_pos (by decide)]
 exact aa (c7 (ag ⟨_,rfl,ag h⟩))
section
variable {X:Cx}{ρ:eZ}{e a b:Expr}{d:D}{ds:List D}{pos p p2:Pos}
def Kj(K:Frag):V->Option Int->Option Int->Hp->VK->Prop:=fun x lo hi H Q=> ∃a xs,x= .ref a/\i5 K H a xs/\
 (HT.g7 xs.length 0 lo=0/\HT.g7 xs.length xs.length hi=xs.length->Q (.ref a) H)/\(¬(HT.g7 xs.length 0 lo=0/\HT.g7 xs.length xs.length hi=xs.length)-> ∀p,H p=none->Q (.ref p) (upd H p (.tup (zt xs lo hi))))
theorem GH:Mj X (Kj X.K):=by
 intro pins s σ H x v vl vu lo hi sl Q I rx hs pl pu h
 obtain⟨a,xs,rfl,hx,q1,q2⟩:=h
 by_cases hw:HT.g7 xs.length 0 lo=0/\HT.g7 xs.length xs.length hi=xs.length
 ·cases rx
  obtain⟨its,r,ht,hz⟩:=I.tuple hx
  have hlen:its.toArray.size=xs.length:=by rw [aB]; exact r.length.symm
  refine⟨"tuple",_,dF.lookup,ht.typeIs, ?_⟩
  exact HA ht hs pl pu (by rw [hlen]; exact hw) ⟨.ref a,H,I,rfl,q1 hw⟩
 ·exact JM pins s σ H (.ref a) v vl vu lo hi sl Q I rx hs pl pu ⟨a,xs,rfl,hx,hw,q2 hw⟩
def cutD(ds:List D)(lo hi:Option Int):List D:=(ds.drop (HT.g7 ds.length 0 lo)).take (HT.g7 ds.length ds.length hi - HT.g7 ds.length 0 lo)
theorem cE.cut{K:Frag}{M:MP}{H:Hp}{xs:List V}{lo hi:Option Int}(h:cE K M H ds xs):cE K M H (cutD ds lo hi) (zt xs lo hi):=by
 unfold cutD zt
 rw [h.len]
 exact(h.drop _).take _
theorem Dt{lo hi:Option Int}(h:HT.g7 ds.length 0 lo=0/\HT.g7 ds.length ds.length hi=ds.length):cutD ds lo hi=ds:=by
 unfold cutD
 rw [h.1,h.2,n8,Nat.sub_zero,eO]
def Bj(X:Cx)(ρ:eZ)(e:Option Expr)(o:Option Int):Prop:=match e,o with
 | none,o=>o=none
 | some e,o=> ∃i,o=some i/\az X ρ e (.int i)
theorem Bj.none:Bj X ρ none none:=rfl
theorem Bj.some{i:Int}(h:az X ρ e (.int i)):Bj X ρ (some e) (some i):=⟨i,rfl,h⟩
theorem Bj.run{eo:Option Expr}{o:Option Int}(h:Bj X ρ eo o): ∃t,PO X eo t/\ ∀(M0:MP) (H0:Hp) (γ:List (D×V)) (α:Nat->Addr) (σ:St) (H:Hp) (Q:Option Int->Hp->Prop),Rep X.K M0 H0 γ α ρ σ H->(∀H',bP H H'->Q o H')->t σ H Q:=by
 cases eo with
 | none=>
  cases (show o=Option.none from h)
  exact⟨_,Gm,fun M0 H0 γ α σ H Q R k=>k H (bP.refl _)⟩
 | some e=>
  obtain⟨i,rfl,h⟩:=h
  exact⟨_,Gn g8,fun M0 H0 γ α σ H Q R k=>h M0 H0 γ α σ H _ R fun v H1 s1 d1=>⟨i,d1,k H1 s1⟩⟩
theorem az.cutT{lo hi:Option Expr}{l u:Option Int}(ha:az X ρ a (.tup ds))(hl:Bj X ρ lo l)(hh:Bj X ρ hi u):az X ρ (.Subscript a (.Slice lo hi none p2) pos) (.tup (cutD ds l u)):=by
 obtain⟨tl,l1,l2⟩:=hl.run
 obtain⟨th,h1,h2⟩:=hh.run
 intro M0 H0 γ α σ H Q R k
 refine(Ei GH g8 l1 h1).to (ha M0 H0 γ α σ H _ R fun v H1 s1 d1=>l2 M0 H0 γ α σ H1 _ (R.next s1) fun H2 s2=>h2 M0 H0 γ α σ H2 _ ((R.next s1).next s2) fun H3 s3=> ?_)
 obtain⟨q,xs,rfl,sq,dn⟩:=d1.same (s2.trans s3)
 refine⟨q,xs,rfl,sq,fun hw=> ?_,fun hw l hl=> ?_⟩
 ·rw [dn.len]at hw
  exact k _ H3 ((s1.trans s2).trans s3) ⟨q,xs,rfl,sq,by rw [Dt hw]; exact dn⟩
 ·exact k _ _ (((s1.trans s2).trans s3).trans (bw hl)) ⟨l,_,rfl,i5.of bG,dn.cut.same (bw hl)⟩
def Jn(K:Frag):R2:=fun x y H Q=> ∃a b xs ys,x= .ref a/\y= .ref b/\i5 K H a xs/\i5 K H b ys/\xs.length+ys.length<=sizeLine/\(xs= []->Q (.ref b) H)/\(xs≠ []->ys= []->Q (.ref a) H)/\(xs≠ []->ys≠ []-> ∀p,H p=none->Q (.ref p) (upd H p (.tup (xs ++ ys))))
theorem Fd:ng X (jt .Add) (Jn X.K):=by
 intro pins s σ H x y v u Q I rx ry h
 obtain⟨a,b,xs,ys,rfl,rfl,ha,hb,hz,q0,q1,q2⟩:=h
 by_cases hx:xs= []
 ·cases rx
  cases ry
  obtain⟨its,r1,⟨⟨cls,dd,data,sl⟩,ho,hc,n,hd⟩,_⟩:=I.tuple ha
  obtain⟨its2,r2,⟨⟨cls2,dd2,data2,sl2⟩,ho2,hc2,n2,hd2⟩,_⟩:=I.tuple hb
  simp only at hc hd hc2 hd2
  subst hc hd hc2 hd2
  have e:its= []:=r1.nil_iff.mpr hx
  exact Ai ⟨_,ho,rfl⟩ ⟨_,ho2,rfl⟩ H_ seq_tuple_add Aj yY (yH _ _)
   (C_ a b its.toArray its2.toArray n n2 dd dd2 sl sl2 (by simp [e])) ⟨ho,ho2,⟨.ref b,H,I,rfl,q0 hx⟩⟩
 ·exact GO pins s σ H (.ref a) (.ref b) v u Q I rx ry ⟨a,b,xs,ys,rfl,rfl,ha,hb,hx,hz,q1 hx,q2 hx⟩
theorem cE.nil_iff{K:Frag}{M:MP}{H:Hp}{xs:List V}(h:cE K M H ds xs):xs= []->ds= []:=fun e=>by
 have:=h.len
 rw [e]at this
 exact lQ.mp this.symm
theorem az.catT{fs:List D}(ha:az X ρ a (.tup ds))(hb:az X ρ b (.tup fs))(hl:ds.length+fs.length<=1000000):az X ρ (.BinOp a .Add b pos) (.tup (ds ++ fs)):=fun M0 H0 γ α σ H Q R k=>
 (Dj Fd g8 g8).to (ha M0 H0 γ α σ H _ R fun v H1 s1 d1=>hb M0 H0 γ α σ H1 _ (R.next s1) fun u H2 s2 d2=>by
  obtain⟨q,xs,rfl,sq,dn⟩:=d1.same s2
  obtain⟨q2,xs2,rfl,sq2,dn2⟩:=d2
  refine⟨q,q2,xs,xs2,rfl,rfl,sq,sq2,by rw [dn.len,dn2.len]; exact jq hl,fun e=> ?_,fun _ e=> ?_,fun _ _ l hl'=> ?_⟩
  ·exact k _ H2 (s1.trans s2) ⟨q2,xs2,rfl,sq2,by rw [dn.nil_iff e]; exact dn2⟩
  ·exact k _ H2 (s1.trans s2) ⟨q,xs,rfl,sq,by rw [dn2.nil_iff e,bJ]; exact dn⟩
  ·exact k _ _ ((s1.trans s2).trans (bw hl')) ⟨l,_,rfl,i5.of bG,(cE.app dn dn2).same (bw hl')⟩)
end
end Z
namespace Tx
def KD{α:Type} [DecidableEq α](s:List α)(a:α):List α:=if a∈s then s else s ++ [a]
def uniq{α:Type} [DecidableEq α](l:List α):List α:=l.foldl KD []
end Tx
namespace Z
open PySem PySem.Spec PyProof.Rows L2
theorem Fj: ∀{xs:List V} {us:List Value},xs.length=us.length->(∀(i:Nat) (x:V) (u:Value),xs[i]? =some x->us[i]? =some u->RelV x u)->Vals xs us
 | [], [],_,_=> .nil
 | [],_::_,h,_=>by simp at h
 | _::_, [],h,_=>by simp at h
 | x::xs,u::us,h,k=> .cons (k 0 x u rfl rfl) (Fj (by simpa using h) fun i y v h1 h2=>k (i+1) y v (by simpa using h1) (by simpa using h2))
end Z
namespace Z
open PySem PySem.Spec PyProof.Rows L2
theorem HH{i:Int}:tf "int" (.int i)=true:=by simp [tf,Ik]
theorem Ft{i:Int}:tf "bool" (.int i)=false:=by simp [tf,Ik]
theorem oz{ds:List D}:tf "tuple" (.tup ds)=true:=by simp [tf,Ik]
theorem rZ{d:D}(h:D.flat 60 d):D.eqv d d=true:=by
 unfold D.eqv
 exact PySem.SeqAt.eqv_refl _ (kF 60 d h).1
section
variable {X:Cx}{ρ:eZ}{e:Expr}{pos p p2 p3:Pos}
theorem xl:gz X (.type "range") (fun xs H Q=> ∃j:Int,xs= [.int j]/\ ∀l,H l=none->Q (.ref l) (upd H l (.xR 0 j))):=by
 intro pins s σ H xs us Q I r ⟨j,e,k⟩
 subst e
 obtain⟨u,rfl,t,rfl⟩:=vals1 r
 exact call_range_1 ⟨.ref s.heap.objs.size,_,I.laid (fun b o e=>af _ e) (ay _) (o:= .xR 0 j) ⟨_,_,_,ar _ rfl⟩,rfl,k _ I.fresh⟩
theorem vH(hc:X.calm=true):gz X (.type "list") (fun xs H Q=> ∃(q:Addr) (hi:Int),xs= [.ref q]/\H q=some (.xR 0 hi)/\0<=hi/\hi<=100000/\
  ∀l,H l=none->Q (.ref l) (upd H l (.lst ((bE hi.toNat).map fun(i:Nat)=>V.int (0+(i:Int)))))):=by
 intro pins s σ H xs us Q I r ⟨q,hi,e,hq,h0,h1,k⟩
 subst e
 obtain⟨u,rfl,rx⟩:=vals1 r
 cases rx
 obtain⟨t,u',v',e⟩:=I.dW q _ hq
 refine call_list_range (a:=0) (b:=hi) (c:=1) (n:=hi.toNat) (I.ok.hd hc) (show IsRange s.heap q 0 hi 1 t u' v' from e) (small_one (by omega) (by omega) (by omega) (by omega)) (by rw [rangeSize_one]; split <;> omega) (by omega) fun h' tk acc c' hk hS hacc=> ?_
 refine⟨.ref s.heap.objs.size,_,I.laid (t':=tk) hk (ay _) (o:= .lst ((bE hi.toNat).map fun(i:Nat)=>V.int (0+(i:Int)))) ⟨?_,acc.toList,c',Fj ?_ fun i x u hx hu=> ?_,by simpa using hS⟩,rfl,k _ I.fresh⟩
 ·rw [ae,bT]
  exact jq (by omega)
 ·rw [ae,bT,ak,hacc.1]
 ·rw [aj]at hx
  have hu':acc[i]? =some u:=by simpa using hu
  obtain⟨tk,rfl⟩:=hacc.2 i u hu'
  cases er:(bE hi.toNat)[i]? with
  | none=>rw [er]at hx; cases hx
  | some j=>
   rw [er]at hx
   obtain⟨_,h2⟩:=aD.mp er
   rw [FV]at h2
   subst h2
   cases hx
   exact⟨tk,by rw [Int.mul_one]⟩
theorem cE.xR{K:Frag}{M:MP}{H:Hp}(n:Nat):cE K M H (kg 0 n) ((bE n).map fun(i:Nat)=>V.int (0+(i:Int))):=by
 unfold kg
 generalize bE n=l
 induction l with
 | nil=>rfl
 | cons a l ih=>exact⟨_,_,rfl,rfl,ih⟩
theorem ef.listRng{j:Int}(hc:X.calm=true)(hg:Gl X "list")(hm:X.mg "list"=none)(hg2:Gl X "range")(hm2:X.mg "range"=none)(h:az X ρ e (.int j))(h0:0<=j)(h1:j<=100000)
  (he:ax [e] X.env= [(false,eval e X.env)]:=by rfl)(he2:ax [.Call (.Name "range" p2) [e] [] p3] X.env= [(false,eval (.Call (.Name "range" p2) [e] [] p3) X.env)]:=by rfl):ef X ρ (.Call (.Name "list" p) [.Call (.Name "range" p2) [e] [] p3] [] pos) (kg 0 j.toNat):=fun M0 H0 γ α σ H Q R k=>
 (jy (vH hc) hg hm (by decide +kernel) (dQ (jy xl hg2 hm2 (by decide +kernel) (dQ g8 gD he) (by decide) (by decide) he) gD he2) (by decide) (by decide) he2).to (h M0 H0 γ α σ H _ R fun v H1 s1 d1=>by
  cases (show v= .int j from d1)
  exact⟨j,rfl,fun l hl'=>⟨l,j,rfl,bG,h0,h1,fun l2 hl2=>k l2 _ _ _ (s1.trans (bw hl')) hl2 (bw hl2) bG (cE.xR _)⟩⟩)
end
end Z
namespace Z
open PySem PySem.Spec PyProof.Rows L2
section
variable {P:av}{w:World}{K:Frag}{mg:Str->Option Value}{base:Heap}{CX:gM}{k:Nat}{x qual:Str}{st:Stmt}{f:Addr}{fd:bg}{N ps:List Str}{ι:Type}{args:ι->List D}{pre:ι->Prop}{res:ι->Except Addr D}
theorem Be(F:ji K x qual st f fd)(S:bQ N ps (aL st))(hl: ∀i,(args i).length=ps.length)
  (body: ∀(cdv:Value) (A:bC) (outer:List Env) (s:ai) (H:Hp) (E:XK) (i:ι) (M0:MP),pre i->fM k (A.deeper (lF qual (aL st) s.heap.objs.size f cdv))->
   ∃d,res i= .ok d/\WS (nc CX P w K mg base N qual (aL st) f cdv A outer s H E).nox M0 H (bt st) (qS N (args i)) {N:=fun _=>d= .non,R:=fun d'=>d'=d}):lN P w K mg base CX (k+1) f fd ps (nA K args pre res):=by
 obtain⟨oc,od,kV,doc,pm,an,cdv,ct,osl,rfl,lk,hcd⟩:=F.ex
 refine xO lk hcd S (fun vs H Q E ⟨i,M0,_,h,_⟩=>by rw [h.len,hl]) fun A outer s H vs Q E hr hsp=> ?_
 obtain⟨i,M0,hM,h,hp,k1,k2⟩:=hsp
 obtain⟨d,hd,ws⟩:=body cdv A outer s H E i M0 hp hr
 refine⟨nE _ (bt st),(gI (X:=(nc CX P w K mg base N qual (aL st) f cdv A outer s H E).nox)).nox, ?_⟩
 refine nE.mono (En:=ends K M0 H [] {N:=fun _=>d= .non,R:=fun d'=>d'=d}) (fun σ' H' ⟨α,ρ,R,e⟩=> ?_) (fun v H' ⟨d',e,sm,dn⟩=> ?_) (fun _ _ ⟨_,_,_,z⟩=>z.elim) (fun _ _ ⟨_,_,_,z⟩=>z.elim) (ws [] (fun _=>0) _ H (rep0 hM h))
 ·exact k1 d hd .non H' R.same (by rw [e]; exact rfl)
 ·subst e
  exact k1 _ hd v H' sm dn
end
abbrev AN(K:Frag):Sp:=nA K (fun ns:List Int=> [D.lst (ns.map .int)]) (fun ns=>ns.length<=63) (fun _=> .ok (.bl true))
end Z
namespace Z
open PySem PySem.Spec PyProof.Rows
def e9(t:cM):Nat->cX->cX
 | 0,p=>p
 | k+1,p=>e9 t k (t.advance p)
theorem kK(t:cM): ∀(k l:Nat) (p:cX),e9 t (k+l) p=e9 t l (e9 t k p)
 | 0,l,p=>by rw [qt]; rfl
 | k+1,l,p=>by rw [Nat.succ_add]; exact kK t k l (t.advance p)
theorem JC{t:cM}(hm:t.mask=7){p:cX}(h0:p.more=0):t.advance p={p with j:=(p.i * 5+1+p.perturb / 32) % 8,more:=0,i:=(p.i * 5+1+p.perturb / 32) % 8,perturb:=p.perturb / 32}:=by
 unfold SetTable.advance
 rw [h0,if_neg (by decide),hm]
 unfold SetTable.leap IP
 dsimp only
 have: ¬((p.i * 5+1+p.perturb / 32) % (7+1)+9<=7):=by omega
 rw [if_neg this]
 simp
structure nI(p:cX):Prop where
 more:p.more=0
 ij:p.i=p.j
 lt:p.j < 8
 dm:p.dummy=none
theorem nI.adv{t:cM}(hm:t.mask=7){p:cX}(h:nI p):nI (t.advance p):=by
 rw [JC hm h.more]
 exact⟨rfl,rfl,Nat.mod_lt _ (by decide),h.dm⟩
theorem nI.e9{t:cM}(hm:t.mask=7): ∀{k:Nat} {p:cX},nI p->nI (Z.e9 t k p)
 | 0,_,h=>h
 | k+1,_,h=>nI.e9 hm (k:=k) (h.adv hm)
theorem xa{t:cM}(hm:t.mask=7): ∀(k:Nat) (p:cX),nI p->(e9 t k p).perturb=p.perturb / 32 ^ k
 | 0,p,_=>by show p.perturb=p.perturb / 1; rw [Nat.div_one]
 | k+1,p,h=>by
  show(e9 t k (t.advance p)).perturb=_
  rw [xa hm k _ (h.adv hm),JC hm h.more]
  show p.perturb / 32 / 32 ^ k=_
  rw [Nat.div_div_eq_div_mul,Nat.pow_succ,Nat.mul_comm]
def MR(j:Nat):Nat:=(j * 5+1) % 8
def Cn:Nat->Nat->Nat
 | 0,j=>j
 | k+1,j=>Cn k (MR j)
theorem A8{t:cM}(hm:t.mask=7): ∀(k:Nat) (p:cX),nI p->p.perturb=0->(e9 t k p).j=Cn k p.j
 | 0,p,_,_=>rfl
 | k+1,p,h,hp=>by
  show(e9 t k (t.advance p)).j=Cn k (MR p.j)
  have e:=JC hm h.more
  rw [A8 hm k _ (h.adv hm) (by rw [e]; show p.perturb / 32=0; rw [hp]),e]
  show Cn k ((p.i * 5+1+p.perturb / 32) % 8)=_
  rw [hp,h.ij]
  rfl
theorem Gs: ∀j:Fin 8, ∀r:Fin 8, ∃k:Fin 8,Cn k.1 j.1=r.1:=by decide
theorem xQ: ∀(n:Nat) (l:List Nat),(∀r,r < n->r∈l)->n<=l.length
 | 0,_,_=>bW _
 | n+1,l,h=>by
  have hn:=h n (fU n)
  have h1:=xQ n (l.erase n) fun r hr=>(CY (aF hr)).mpr (h r (cB hr))
  have h2:=yM hn
  have h3:=List.length_pos_of_mem hn
  omega
theorem uB{t:cM}(hd:t.dummies= #[]){r:Nat}(h:r∉t.place.toList):t.slot r= .empty:=by
 unfold yN
 dsimp only
 have h1:(t.place[cQ t.place r]? ==some r)=false:=by
  rw [beq_eq_false_iff_ne]
  intro e
  exact h (by simpa using By e)
 rw [h1,hd]
 rfl
theorem zL{t:cM}(hd:t.dummies= #[])(r:Nat):t.slot r= .empty\/ ∃i,t.slot r= .live i/\t.place[i]? =some r:=by
 unfold yN
 dsimp only
 by_cases h1:(t.place[cQ t.place r]? ==some r)=true
 ·rw [if_pos h1]
  exact .inr ⟨_,rfl,ou h1⟩
 ·rw [if_neg h1,hd]
  exact .inl rfl
theorem reach{t:cM}(hm:t.mask=7)(hd:t.dummies= #[])(hs:t.place.size < 8){p:cX}(hp:nI p)(hb:p.perturb < 2 ^ 64): ∃K,K<=20/\t.slot (e9 t K p).j= .empty:=by
 have: ∃r,r < 8/\r∉t.place.toList:=by
  apply wQ
  intro hn
  have:=xQ 8 t.place.toList fun r hr=>wQ fun z=>hn ⟨r,hr,z⟩
  simp at this
  omega
 obtain⟨r,hr,hnr⟩:=this
 have hq:=nI.e9 hm (k:=13) hp
 have he: ∀k,e9 t (13+k) p=e9 t k (e9 t 13 p):=fun k=>kK t 13 k p
 have hz:(e9 t 13 p).perturb=0:=by
  rw [xa hm 13 p hp]
  exact Nat.div_eq_of_lt (aZ hb (by decide +kernel))
 generalize e9 t 13 p=q at hq hz he
 obtain⟨⟨k,hk8⟩,hk⟩:=Gs ⟨q.j,hq.lt⟩ ⟨r,hr⟩
 have hk':Cn k q.j=r:=hk
 refine⟨13+k,by omega, ?_⟩
 rw [he,A8 hm k _ hq hz,hk']
 exact uB hd hnr
theorem EC{t:cM}(hm:t.mask=7)(h:Int):nI (t.probeStart h)/\(t.probeStart h).perturb < 2 ^ 64:=by
 unfold SetTable.probeStart
 dsimp only
 rw [hm]
 have: ¬(SetTable.bits h % (7+1)+9<=7):=by omega
 refine⟨⟨?_,rfl,Nat.mod_lt _ (by decide),rfl⟩, ?_⟩
 ·show IP 7 _ - _=0
  unfold IP
  rw [if_neg this]
  omega
 ·show SetTable.bits h < 2 ^ 64
  unfold SetTable.bits
  have h1:=eT h (show(0:Int) < 2 ^ 64 by decide)
  have h2:=gn h (show(2 ^ 64:Int)≠0 by decide)
  omega
theorem Fg{t:cM}(hm:t.mask=7)(hd:t.dummies= #[]){hashAt:Nat->Int}{h:Int}: ∀(K:Nat) (p:cX) (fuel:Nat),nI p->t.slot (e9 t K p).j= .empty->K < fuel->
  (∃j m,fv t hashAt h fuel p=some (.empty j none)/\t.slot j= .empty/\j < 8/\j=(e9 t m p).j/\ ∀m',m' < m-> ∃i,t.slot (e9 t m' p).j= .live i/\hashAt i≠h)\/
  ∃j i next K' m,fv t hashAt h fuel p=some (.candidate j i next)/\t.slot j= .live i/\t.place[i]? =some j/\K' < K/\t.slot (e9 t K' next).j= .empty/\nI next/\j=(e9 t m p).j/\next=e9 t (m+1) p/\ ∀m',m' < m-> ∃i,t.slot (e9 t m' p).j= .live i/\hashAt i≠h
 | K,p,0,_,_,hf=>by omega
 | 0,p,fuel+1,hp,he,_=>by
  refine .inl ⟨p.j,0, ?_,he,hp.lt,rfl,fun m' h=>absurd h (mZ _)⟩
  show(match t.slot p.j with | .empty=>some (pU p.j p.dummy) | .dummy=>_ | .live i=>_)=_
  rw [show t.slot p.j= .empty from he,hp.dm]
 | K+1,p,fuel+1,hp,he,hf=>by
  rcases zL hd p.j with hs | ⟨i,hs,hi⟩
  ·refine .inl ⟨p.j,0, ?_,hs,hp.lt,rfl,fun m' h=>absurd h (mZ _)⟩
   show(match t.slot p.j with | .empty=>some (pU p.j p.dummy) | .dummy=>_ | .live i=>_)=_
   rw [hs,hp.dm]
  ·by_cases hh:hashAt i=h
   ·refine .inr ⟨p.j,i,t.advance p,K,0, ?_,hs,hi,fU _,he,hp.adv hm,rfl,rfl,fun m' h=>absurd h (mZ _)⟩
    show(match t.slot p.j with | .empty=>some (pU p.j p.dummy) | .dummy=>fv t hashAt h fuel (t.advance {p with dummy:=some p.j}) | .live i=>if hashAt i==h then some (SetTable.Met.candidate p.j i (t.advance p))else fv t hashAt h fuel (t.advance p))=_
    rw [hs]
    dsimp only
    rw [if_pos (by rw [hh]; exact beq_self_eq_true h)]
   ·have e:fv t hashAt h (fuel+1) p=fv t hashAt h fuel (t.advance p):=by
     show(match t.slot p.j with | .empty=>some (pU p.j p.dummy) | .dummy=>fv t hashAt h fuel (t.advance {p with dummy:=some p.j}) | .live i=>if hashAt i==h then some (SetTable.Met.candidate p.j i (t.advance p))else fv t hashAt h fuel (t.advance p))=_
     rw [hs]
     dsimp only
     rw [if_neg (by simpa using hh)]
    rw [e]
    have one: ∀m,(∀m',m' < m-> ∃i,t.slot (e9 t m' (t.advance p)).j= .live i/\hashAt i≠h)-> ∀m',m' < m+1-> ∃i,t.slot (e9 t m' p).j= .live i/\hashAt i≠h:=fun m hv m' hm'=>by
     cases m' with
     | zero=>exact⟨i,hs,hh⟩
     | succ m'=>exact hv m' (by omega)
    rcases Fg hm hd K (t.advance p) fuel (hp.adv hm) he (by omega)with⟨j,m,h1,h2,h3,h4,h5⟩ | ⟨j,i',next,K',m,h1,h2,h3,h4,h5,h6,h7,h8,h9⟩
    ·exact .inl ⟨j,m+1,h1,h2,h3,h4,one m h5⟩
    ·exact .inr ⟨j,i',next,K',m+1,h1,h2,h3,cB h4,h5,h6,h7,h8,one m h9⟩
def zE:List Nat->List (List Nat)
 | []=> [[]]
 | a::l=>(zE l).map (a:: ·) ++ zE l
def subs:List (List Nat):=(zE [0,1,2,3,4,5,6,7]).filter fun l=>l.length<=4
theorem Dz: []∈subs:=by decide +kernel
theorem DK:(subs.all fun l=>l.length==4 || [0,1,2,3,4,5,6,7].all fun j=>(l.toArray[cQ l.toArray j]? ==some j) || subs.contains (bZ l.toArray (cQ l.toArray j) j).toList)=true:=by decide +kernel
theorem B_:(subs.all fun l=>(bE (l.length+1)).all fun i=>cQ l.toArray (if i==0 then 0 else l.getD (i - 1) 0+1)==i)=true:=by decide +kernel
theorem HY:(subs.all fun l=>(bE l.length).all fun i=>cQ l.toArray (l.getD i 0)==i)=true:=by decide +kernel
theorem HF:(subs.all fun l=> [0,1,2,3,4,5,6,7].all fun j=>decide (cQ l.toArray j<=l.length))=true:=by decide +kernel
theorem Di{pl:Array Nat}(h:pl.toList∈subs){j:Nat}(hj:j < 8):cQ pl j<=pl.size:=by
 have h1:=a8.mp HF _ h
 have hm:j∈ [0,1,2,3,4,5,6,7]:=by simp only [aO,c9,or_false]; omega
 have h2:=of_decide_eq_true (a8.mp h1 j hm)
 rw [ak]at h2
 exact h2
theorem slot_of{t:cM}(hp:t.place.toList∈subs){i r:Nat}(h:t.place[i]? =some r):t.slot r= .live i:=by
 have hi:i < t.place.size:=(dj.mp h).1
 have h1:=a8.mp HY _ hp
 have h2:=ou (a8.mp h1 i (dh.mpr (by rw [ak]; exact hi)))
 have e:t.place.toList.getD i 0=r:=by rw [ao,bz,h]; rfl
 rw [e]at h2
 have h3:cQ t.place r=i:=h2
 unfold yN
 dsimp only
 rw [h3,h,if_pos (beq_self_eq_true _)]
theorem slot_mem{t:cM}(hd:t.dummies= #[])(hp:t.place.toList∈subs){r:Nat}:t.slot r≠ .empty↔r∈t.place.toList:=by
 constructor
 ·intro h
  exact wQ fun z=>h (uB hd z)
 ·intro h e
  obtain⟨i,hi,e1⟩:=dB h
  have:=slot_of hp (i:=i) (r:=r) (by rw [<-bz,ah hi,e1])
  rw [this]at e
  cases e
theorem Hh{pl:Array Nat}(h:pl.toList∈subs)(h4:pl.size < 4){j:Nat}(hj:j < 8)(he: ¬pl[cQ pl j]? =some j):(bZ pl (cQ pl j) j).toList∈subs:=by
 have h1:=a8.mp DK _ h
 rw [ud]at h1
 rcases h1 with h1 | h1
 ·have:pl.toList.length=4:=ou h1
  rw [ak]at this
  omega
 ·have hm:j∈ [0,1,2,3,4,5,6,7]:=by simp only [aO,c9,or_false]; omega
  have h2:=a8.mp h1 j hm
  rw [ud]at h2
  rcases h2 with h2 | h2
  ·exact absurd (ou h2) he
  ·exact List.contains_iff_mem.mp h2
theorem Dq{pl:Array Nat}(h:pl.toList∈subs){i:Nat}(hi:i<=pl.size):cQ pl (if i=0 then 0 else pl.getD (i - 1) 0+1)=i:=by
 have h1:=a8.mp B_ _ h
 have h2:=a8.mp h1 i (dh.mpr (by rw [ak]; omega))
 have h3:=ou h2
 have e:pl.toList.getD (i - 1) 0=pl.getD (i - 1) 0:=by simp [ao,u6]
 rw [e]at h3
 by_cases h0:i=0
 ·subst h0; exact h3
 ·rw [if_neg h0]
  rw [if_neg (by simpa using h0)]at h3
  exact h3
section
variable {prog:av}{w:World}
abbrev TK(prog:av)(w:World)(h:Heap)(ks:List Int)(b:Addr):Prop:=IsTupleKey (fJ prog w) h ks b
abbrev kU(prog:av)(w:World)(ks:List Int):Int:=tupleKeyHash (fJ prog w) ks
structure PS(prog:av)(w:World)(led:Bool)(h:Heap)(a:Addr)(o:Obj)(es:Array (Int×Value))(ep:Nat)(t:cM):Prop where
 get:h.get? a=some o
 ex:o.ExactSet
 dat:o.data= .set es ep t
 mask:t.mask=7
 Hw:t.dummies= #[]
 size:t.place.size=es.size
 plain:t.plain=true
 led:t.led=led
 ie:es.size<=4
 pl:t.place.toList∈subs
 el: ∀e∈es.toList, ∃ks b,e=(kU prog w ks,aq b)/\TK prog w h ks b
 on: ∀(i:Nat) (e:Int×Value),es[i]? =some e-> ∃K,t.place[i]? =some (e9 t K (t.probeStart e.1)).j/\ ∀K',K' < K->t.slot (e9 t K' (t.probeStart e.1)).j≠ .empty
 nd: ∃kk:List (List Int),kk.length=es.size/\kk.Nodup/\ ∀(i:Nat) (k:List Int),kk[i]? =some k-> ∃b,es[i]? =some (kU prog w k,aq b)/\TK prog w h k b
variable {led:Bool}{a:Addr}{o:Obj}{es:Array (Int×Value)}{ep:Nat}{t:cM}{A:bC}{E:Value->ai->Prop}{s:ai}
theorem PS.fits(S:PS prog w led s.heap a o es ep t):t.fits es.size=true:=by
 unfold SetTable.fits SetTable.fill
 rw [S.size,S.Hw,S.mask]
 have:=S.ie
 simp
 omega
theorem PS.state{Q:(Array (Int×Value)×Nat×cM)->ai->Prop}(S:PS prog w led s.heap a o es ep t)(h:Q (es,ep,t) s):wpAny (model prog w) A (setState a) Q E s:=
 wpAny_setState_of S.get S.dat S.fits h
theorem vC{ks:List Int}{vs:List Value}(h:kr (fJ prog w) ks vs): ∀v∈vs, ∃i tk,v=fQ i tk:=by
 induction h with
 | nil=>intro v hv; cases hv
 | cons h1 _ ih=>
  intro v hv
  rcases aO.mp hv with rfl | hv
  ·obtain⟨t,rfl⟩:=kW h1
   exact⟨_,t,rfl⟩
  ·exact ih v hv
theorem xZ{ks:List Int}{b:Addr}{Q:Bool->ai->Prop}{n:Nat}(hk:TK prog w s.heap ks b)(h:Q false s):wpAny (model prog w) A (qu (n+1) (.ref b)) Q E s:=by
 obtain⟨ob,items,m,ho,hc,hd,hi⟩:=id hk
 unfold qu
 refine aa (fj hk.typeIs ?_)
 dsimp only
 rw [if_pos (by decide)]
 refine aa (ag ?_)
 simp only [eN,aS,if_false]
 refine aa (bR ho hd ?_)
 dsimp only
 have loop: ∀(l:List Value),(∀v∈l, ∃i tk,v=fQ i tk)->wpAny (model prog w) A (forIn l ((none,()):Option Bool×Unit) fun y __s=>do
      let __do_lift<-qu n y
      if __do_lift=true then pure (ForInStep.done (some true,()))else pure (ik (none,()))) (fun r s'=>r=(none,())/\s'=s) E s:=by
  intro l
  induction l with
  | nil=>intro _; rw [dq]; exact ag ⟨rfl,rfl⟩
  | cons v l ih=>
   intro hv
   rw [cj]
   obtain⟨i,tk,rfl⟩:=hv v (.head _)
   have e:qu n (.int i tk)=pure false:=by cases n <;> rfl
   rw [e]
   exact aa (ag (ih fun x hx=>hv x (.tail _ hx)))
 rw [<-dM]
 refine aa (cF (loop items.toList (vC hi)) (fun r s' hr=> ?_) fun _ _ x=>x)
 obtain⟨rfl,rfl⟩:=hr
 exact ag h
theorem Gk{ks:List Int}{b:Addr}{Q:Bool->ai->Prop}{n:Nat}(hk:TK prog w s.heap ks b)(h:Q true s):wpAny (model prog w) A (CZ (n+1) (.ref b)) Q E s:=by
 obtain⟨ob,items,m,ho,hc,hd,hi⟩:=id hk
 unfold CZ
 refine aa (gq hk.typeIs PySem.F.slot_tuple_hash.lookup ?_)
 refine aa (bR ho hd ?_)
 have loop: ∀(l:List Value),(∀v∈l, ∃i tk,v=fQ i tk)->wpAny (model prog w) A (forIn l ((none,()):Option Bool×Unit) fun x __s=>do
      let __do_lift<-CZ n x
      if(!__do_lift)=true then pure (ForInStep.done (some false,()))else pure (ik (none,()))) (fun r s'=>r=(none,())/\s'=s) E s:=by
  intro l
  induction l with
  | nil=>intro _; rw [dq]; exact ag ⟨rfl,rfl⟩
  | cons v l ih=>
   intro hv
   rw [cj]
   obtain⟨i,tk,rfl⟩:=hv v (.head _)
   have e:CZ n (.int i tk)=pure true:=by cases n <;> rfl
   rw [e]
   exact aa (ag (ih fun x hx=>hv x (.tail _ hx)))
 rw [Option.getD_some, <-dM]
 refine aa (cF (loop items.toList (vC hi)) (fun r s' hr=> ?_) fun _ _ x=>x)
 obtain⟨rfl,rfl⟩:=hr
 exact ag h
theorem Dv{ks:List Int}{b:Addr}{Q:Bool->ai->Prop}(hk:TK prog w s.heap ks b): ∀(l:List Value),(∀v∈l, ∃ks' b',v=aq b'/\TK prog w s.heap ks' b')->Q false s->wpAny (model prog w) A (searchCouldBeSeen (.ref b) l) Q E s:=by
 intro l hl h
 unfold searchCouldBeSeen
 have loop: ∀(l:List Value),(∀v∈l, ∃ks' b',v=aq b'/\TK prog w s.heap ks' b')-> ∀body:Value->Option Bool×Unit->Sem (ForInStep (Option Bool×Unit)),
   (∀ks' b' (R:ForInStep (Option Bool×Unit)->ai->Prop),TK prog w s.heap ks' b'->R (.yield (none,())) s->wpAny (model prog w) A (body (.ref b') (none,())) R E s)->
   wpAny (model prog w) A (forIn l ((none,()):Option Bool×Unit) body) (fun r s'=>r=(none,())/\s'=s) E s:=by
  intro l
  induction l with
  | nil=>intro _ body hb; rw [dq]; exact ag ⟨rfl,rfl⟩
  | cons v l ih=>
   intro hv body hb
   rw [cj]
   obtain⟨ks',b',rfl,hk'⟩:=hv v (.head _)
   exact aa (hb ks' b' _ hk' (ih (fun x hx=>hv x (.tail _ hx)) body hb))
 refine aa (cF (loop l hl _ fun ks' b' R hk' hR=> ?_) (fun r s' hr=> ?_) fun _ _ x=>x)
 ·dsimp only
  split
  ·exact ag hR
  ·refine aa (wpAny_eqIsQuiet_tuple hk ?_)
   simp only [eN,aS,if_false]
   refine aa (wpAny_eqIsQuiet_tuple hk' ?_)
   simp only [eN,aS,if_false]
   refine aa (xZ hk ?_)
   simp only [aS,if_false]
   refine aa (xZ hk' ?_)
   simp only [aS,if_false]
   exact ag hR
 ·obtain⟨rfl,rfl⟩:=hr
  exact ag h
theorem He{t:cM}{j i:Nat}(h:t.slot j= .live i)(hp:t.place[i]? =some j):i < t.place.size:=(dj.mp hp).1
def Fo(prog:av)(w:World)(h:Heap)(es:Array (Int×Value))(ks:List Int)(i:Nat):Prop:= ∀b,es[i]? =some (kU prog w ks,aq b)-> ¬TK prog w h ks b
theorem uH(hu:A.units < cLine)(S:PS prog w led s.heap a o es ep t){ks:List Int}{b:Addr}(hk:TK prog w s.heap ks b){Q:SetFound->ai->Prop}
  (h1:(∃b',(kU prog w ks,aq b')∈es.toList/\TK prog w s.heap ks b')->Q (.there none) s)(h2: ∀j m,t.slot j= .empty->j < 8->j=(e9 t m (t.probeStart (kU prog w ks))).j->(∀m',m' < m-> ∃i,t.slot (e9 t m' (t.probeStart (kU prog w ks))).j= .live i/\Fo prog w s.heap es ks i)->Q (.free j false) s):
  ∀(K fuel:Nat) (stand:Option cX) (n0:Nat),stand.getD (t.probeStart (kU prog w ks))=e9 t n0 (t.probeStart (kU prog w ks))->(∀m',m' < n0-> ∃i,t.slot (e9 t m' (t.probeStart (kU prog w ks))).j= .live i/\Fo prog w s.heap es ks i)->K < fuel->nI (stand.getD (t.probeStart (kU prog w ks)))->t.slot (e9 t K (stand.getD (t.probeStart (kU prog w ks)))).j= .empty->K<=20->
   wpAny (model prog w) A (yO a (.ref b) (kU prog w ks) true fuel stand) Q E s
 | K,0,_,_,_,_,hf,_,_,_=>by omega
 | K,fuel+1,stand,n0,hpos,hvis,hf,hp,he,h20=>by
  unfold yO
  refine aa (S.state ?_)
  dsimp only
  have hg:t.gaveWay=false:=by unfold SetTable.gaveWay; rw [S.mask]; rfl
  rw [hg]
  simp only [aS,if_false]
  generalize hpr:t.probe _ _ _=met
  have hturn:10 * SetTable.turns t.mask=220:=by rw [S.mask]; rfl
  have vis: ∀m:Nat,(∀m',m' < m-> ∃i,t.slot (e9 t m' (stand.getD (t.probeStart (kU prog w ks)))).j= .live i/\(es[i]?.map (·.1)).getD 0≠kU prog w ks)-> ∀m',m' < n0+m-> ∃i,t.slot (e9 t m' (t.probeStart (kU prog w ks))).j= .live i/\Fo prog w s.heap es ks i:=fun m hv m' hm'=>by
   by_cases hlt:m' < n0
   ·exact hvis m' hlt
   ·obtain⟨i,hi1,hi2⟩:=hv (m' - n0) (by omega)
    rw [hpos, <-kK,show n0+(m' - n0)=m' by omega]at hi1
    exact⟨i,hi1,fun b hb _=>hi2 (by rw [hb]; rfl)⟩
  rcases Fg S.mask S.Hw (hashAt:=_) (h:=kU prog w ks) K _ (10 * SetTable.turns t.mask) hp he (by rw [hturn]; omega)with⟨j,m,e,hj,hj8,hjm,hv⟩ | ⟨j,i,next,K',m,e,hj,hi,hK,he',hp',hjm,hnx,hv⟩
  ·cases hpr.symm.trans e
   exact ag (h2 j (n0+m) hj hj8 (by rw [hjm,hpos, <-kK]) (vis m hv))
  ·cases hpr.symm.trans e
   dsimp only
   have hlt:i < es.size:=by rw [<-S.size]; exact He hj hi
   have hm:es[i]∈es.toList:=by simp
   obtain⟨ks',b',ee,hk'⟩:=S.el _ hm
   have hget:es[i]? =some (kU prog w ks',aq b'):=by rw [cT hlt,ee]
   rw [ee]at hm
   have main:wpAny (model prog w) A (match es[i]? with
     | some (_,y)=>do
      let equal<-jW [y] (eqBool y (aq b))
      let __x<-setState a
      if(true&&equal)=true then pure (SetFound.there none)
       else
        match __x.2.snd.sameMemory t.moves t.mask with
        | some same=>do
         let still<-match if same=true then __x.2.snd.slot j else SetTable.Slot.empty with
          | SetTable.Slot.live i'=>
           match __x.fst[i']? with
           | some (_,y')=>do
            let __do_lift<-isSame y' y
            pure (if __do_lift=true then some i' else none)
           | none=>pure none
          | _=>pure none
         match still with
          | none=>do
           rule "set.search.anew"
           yO a (aq b) (kU prog w ks) true fuel none
          | some i'=>
           if equal=true then pure (SetFound.there (some i'))
           else yO a (aq b) (kU prog w ks) true fuel (some next)
        | _=>iE "set.changed-during-lookup:is-the-new-block-at-the-old-address"
     | _=>iE "internal:set-entry") Q E s:=by
    rw [hget]
    dsimp only
    refine aa (bq (wpAny_eqBool_tuple hu hk' hk ?_))
    refine aa (S.state ?_)
    by_cases hkk:ks'=ks
    ·subst hkk
     rw [decide_eq_true rfl,if_pos (show(true&&true)=true from rfl)]
     exact ag (h1 ⟨b',hm,hk'⟩)
    ·rw [decide_eq_false hkk,if_neg (show ¬(true&&false)=true by decide)]
     have hsm:t.sameMemory t.moves t.mask=some true:=by unfold SetTable.sameMemory; rw [if_pos (beq_self_eq_true _)]
     dsimp only
     rw [hsm]
     dsimp only
     rw [if_pos rfl,hj]
     dsimp only
     rw [hget]
     dsimp only
     refine aa (wpAny_isSame_ref_self ?_)
     rw [if_pos rfl]
     refine aa (ag ?_)
     dsimp only
     rw [if_neg (by decide)]
     refine uH hu S hk h1 h2 K' fuel (some next) (n0+(m+1)) (by rw [Option.getD_some,hnx,hpos, <-kK]) (fun m' hm'=> ?_) (by omega) hp' he' (by omega)
     by_cases hlt:m' < n0+m
     ·exact vis m hv m' hlt
     ·have em:m'=n0+m:=by omega
      subst em
      refine⟨i,by rw [kK, <-hpos, <-hjm]; exact hj,fun b2 hb2 hk2=> ?_⟩
      rw [hget]at hb2
      have e2:b'=b2:=by injection hb2 with z; injection z with _ z; injection z
      rw [<-e2]at hk2
      exact hkk (n9 hk' hk2)
   by_cases hl:t.led=true
   ·rw [hl]
    simp only [eN,aS,if_false]
    exact main
   ·rw [Bool.not_eq_true]at hl
    rw [hl]
    simp only [Bool.not_false,if_true]
    refine aa (Dv hk _ (fun v hv=> ?_) ?_)
    ·obtain⟨x,hx,rfl⟩:=aQ.mp hv
     have hx':x∈es.toList:=by
      have:x∈es/\x.fst=kU prog w ks:=by simpa using hx
      simpa using this.1
     obtain⟨ks2,b2,rfl,hk2⟩:=S.el x hx'
     exact⟨ks2,b2,rfl,hk2⟩
    ·simp only [aS,if_false]
     exact main
theorem nN{α:Type}(xs:Array α)(p:Nat)(x:α):(bZ xs p x).toList=xs.toList.take p ++ x::xs.toList.drop p:=by
 unfold bZ
 simp [ju,dw]
theorem kJ{α:Type}(xs:Array α)(p:Nat)(x:α):(bZ xs p x).size=xs.size+1:=by
 rw [<-ak,nN,aw,aH,br,bL,ak]
 omega
theorem wj{α:Type}(xs:Array α)(p:Nat)(x e:α):e∈(bZ xs p x).toList↔e∈xs.toList\/e=x:=by
 rw [nN,bI,aO]
 have h:=aX p xs.toList
 constructor
 ·rintro(h1 | h1 | h1)
  ·exact .inl (gP h1)
  ·exact .inr h1
  ·exact .inl (gQ h1)
 ·rintro(h1 | h1)
  ·rw [<-h,bI]at h1
   exact h1.elim .inl fun z=> .inr (.inr z)
  ·exact .inr (.inl h1)
theorem TK.at{h h':Heap}{a b:Addr}{ks:List Int}{o:Obj}{es:Array (Int×Value)}{ep:Nat}{t:cM}(x:TK prog w h ks b)(ho:h.get? a=some o)(hd:o.data= .set es ep t)(sb:aW a h h'):TK prog w h' ks b:=by
 obtain⟨o',items,n,ho',hc,hd',hi⟩:=x
 have hne:b≠a:=by
  rintro rfl
  rw [ho]at ho'
  cases ho'
  rw [hd]at hd'
  cases hd'
 exact⟨o',items,n,(sb.2 b hne).trans ho',hc,hd',hi⟩
theorem mD{α:Type}{xs:Array α}{p:Nat}(hp:p<=xs.size)(x:α)(i:Nat):(bZ xs p x)[i]? =if i < p then xs[i]? else if i=p then some x else xs[i - 1]? :=by
 rw [<-bz,nN,C0,br,ak,IQ hp]
 by_cases h1:i < p
 ·rw [if_pos h1,if_pos h1,pV,if_pos h1,bz]
 ·rw [if_neg h1,if_neg h1]
  by_cases h2:i=p
  ·subst h2
   rw [if_pos rfl,jZ]
   rfl
  ·rw [if_neg h2,show i - p=(i - p - 1)+1 by omega,bF,List.getElem?_drop,bz]
   congr 1
   omega
theorem lZ(t:cM)(j:Nat): ∀(k:Nat) (p:cX),e9 (t.put j).fst k p=e9 t k p
 | 0,_=>rfl
 | k+1,p=>by
  show e9 (t.put j).fst k ((t.put j).fst.advance p)=e9 t k (t.advance p)
  rw [lZ t j k]
  rfl
theorem JD(hu:A.units < cLine)(S:PS prog w led s.heap a o es ep t)(h3:es.size < 4){ks:List Int}{b:Addr}(hk:TK prog w s.heap ks b){Q:Bool->ai->Prop}
  (h1:(∃b',(kU prog w ks,aq b')∈es.toList/\TK prog w s.heap ks b')->Q false s)
  (h2: ∀(h':Heap) (o':Obj) (es':Array (Int×Value)) (t':cM),aW a s.heap h'->PS prog w led h' a o' es' (ep+1) t'->(∀e,e∈es'.toList↔e∈es.toList\/e=(kU prog w ks,aq b))->es'.size=es.size+1->Q true {s with heap:=h'}):
  wpAny (model prog w) A (setAddHashed a (.ref b) (kU prog w ks)) Q E s:=by
 unfold setAddHashed setAddHashedIn
 refine bq (aa (S.state ?_))
 dsimp only
 have hbs:byScan (.ref b) es=false:=rfl
 rw [hbs]
 simp only [aS,if_false]
 obtain⟨p1,p2⟩:=EC S.mask (kU prog w ks)
 obtain⟨K,hK,he⟩:=reach S.mask S.Hw (by rw [S.size]; have:=S.ie; omega) p1 p2
 refine aa ?_
 unfold setSearch
 refine uH hu S hk (fun hx=> ?_) (fun j m hj hj8 hjm hvis=> ?_) K 100000 none 0 rfl (fun m' h=>absurd h (mZ _)) (by omega) p1 he hK
 ·exact ag (h1 hx)
 ·dsimp only
  refine aa (S.state ?_)
  have hpl:(t.put j).fst.plain=true:=S.plain
  rw [if_pos hpl]
  refine aa (Gk hk ?_)
  rw [if_pos rfl]
  have hsz:=S.size
  have hps:(t.put j).fst.place.size=es.size+1:=by
   show(bZ t.place _ j).size=_
   rw [kJ,hsz]
  have hdm:(t.put j).fst.dummies= #[]:=by
   show(if SetTable.has t.dummies j then SetTable.eraseAt t.dummies (cQ t.dummies j)else t.dummies)= #[]
   rw [S.Hw]
   rfl
  have hmk:(t.put j).fst.mask=7:=S.mask
  have hfull:(t.put j).fst.tooFull=false:=by
   unfold SetTable.tooFull SetTable.fill
   rw [hps,hdm,hmk]
   simp
   omega
  refine aa (wpAny_storeSet_of S.get S.dat ?_ (by rw [kJ,eL]; show es.size+1<=_; omega))
  rw [hfull]
  simp only [iR,aS,if_false]
  have hpl':(t.put j).fst.place.toList∈subs:=by
   refine Hh S.pl (by rw [hsz]; exact h3) hj8 fun z=> ?_
   unfold yN at hj
   dsimp only at hj
   rw [if_pos (by rw [z]; exact beq_self_eq_true _)]at hj
   cases hj
  have hle:(t.put j).snd<=t.place.size:=Di S.pl hj8
  have hle2:(t.put j).snd<=es.size:=by rw [<-hsz]; exact hle
  have gp: ∀i,(t.put j).fst.place[i]? =if i < (t.put j).snd then t.place[i]? else if i=(t.put j).snd then some j else t.place[i - 1]? :=mD hle j
  have ge: ∀i,(bZ es (t.put j).snd (kU prog w ks,aq b))[i]? =if i < (t.put j).snd then es[i]? else if i=(t.put j).snd then some (kU prog w ks,aq b)else es[i - 1]? :=mD hle2 _
  have full: ∀r,t.slot r≠ .empty->(t.put j).fst.slot r≠ .empty:=fun r hr=>by
   rw [slot_mem hdm hpl']
   exact(wj _ _ _ _).mpr (.inl ((slot_mem S.Hw S.pl).mp hr))
  have alone: ∀i b',es[i]? =some (kU prog w ks,aq b')-> ¬TK prog w s.heap ks b':=fun i b' hi hk'=>by
   obtain⟨Ki,k1,k2⟩:=S.on i _ hi
   have sl:=slot_of S.pl k1
   by_cases hlt:Ki < m
   ·obtain⟨i',v1,v2⟩:=hvis Ki hlt
    rw [sl]at v1
    cases v1
    exact v2 b' hi hk'
   ·by_cases heq:Ki=m
    ·subst heq
     rw [<-hjm,hj]at sl
     cases sl
    ·exact k2 m (by omega) (by rw [<-hjm]; exact hj)
  have hsb:=bu s.heap a (Obj.putSet (bZ es (t.put j).snd (kU prog w ks,aq b)) (t.put j).fst)
  refine ag (h2 _ {o with data:= .set (bZ es (t.put j).snd (kU prog w ks,aq b)) (ep+1) (t.put j).fst} (bZ es (t.put j).snd (kU prog w ks,aq b)) (t.put j).fst hsb ⟨?_, ?_,rfl,hmk,hdm,by rw [hps,kJ],hpl,S.led,by rw [kJ]; omega,hpl',fun e he=> ?_,fun i e he=> ?_, ?_⟩ (fun e=>wj _ _ _ _) (kJ _ _ _))
  ·have:=cU (Obj.putSet (bZ es (t.put j).snd (kU prog w ks,aq b)) (t.put j).fst) S.get (by rw [putSet_of _ _ S.dat]; rfl)
   rw [putSet_of _ _ S.dat]at this
   exact this
  ·exact S.ex
  ·rcases(wj _ _ _ _).mp he with he | rfl
   ·obtain⟨ks',b',e1,hk'⟩:=S.el e he
    exact⟨ks',b',e1,TK.at hk' S.get S.dat hsb⟩
   ·exact⟨ks,b,rfl,TK.at hk S.get S.dat hsb⟩
  ·have old: ∀i',es[i']? =some e->(t.put j).fst.place[i]? =t.place[i']? -> ∃K,(t.put j).fst.place[i]? =some (e9 (t.put j).fst K ((t.put j).fst.probeStart e.1)).j/\ ∀K',K' < K->(t.put j).fst.slot (e9 (t.put j).fst K' ((t.put j).fst.probeStart e.1)).j≠ .empty:=fun i' h1 h2=>by
    obtain⟨K,k1,k2⟩:=S.on i' e h1
    refine⟨K,by rw [h2,k1,lZ]; rfl,fun K' hK'=> ?_⟩
    rw [lZ]
    exact full _ (k2 K' hK')
   rw [ge i]at he
   split at he
   ·rename_i hlt
    exact old i he (by rw [gp i,if_pos hlt])
   ·rename_i hlt
    split at he
    ·rename_i heq
     cases he
     refine⟨m,by rw [gp i,if_neg hlt,if_pos heq,lZ,hjm]; rfl,fun K' hK'=> ?_⟩
     rw [lZ]
     obtain⟨i',v1,_⟩:=hvis K' hK'
     exact full _ (by show t.slot (e9 t K' (t.probeStart (kU prog w ks))).j≠_; rw [v1]; intro z; cases z)
    ·rename_i heq
     exact old (i - 1) he (by rw [gp i,if_neg hlt,if_neg heq])
  ·obtain⟨kk,k1,k2,k3⟩:=S.nd
   have hni:ks∉kk:=fun hm'=>by
    obtain⟨i,hi,e1⟩:=dB hm'
    obtain⟨b',e2,e3⟩:=k3 i ks (by rw [ah hi,e1])
    exact alone i b' e2 e3
   have hlk:(t.put j).snd<=kk.length:=by rw [k1]; exact hle2
   refine⟨kk.take (t.put j).snd ++ ks::kk.drop (t.put j).snd, ?_, ?_,fun i k hk'=> ?_⟩
   ·rw [aw,aH,br,bL,kJ]
    omega
   ·have hp:(kk.take (t.put j).snd ++ ks::kk.drop (t.put j).snd).Perm (ks::kk):=by
     refine Ib.trans ?_
     rw [aX]
    exact hp.symm.nodup (d_.mpr ⟨hni,k2⟩)
   ·rw [C0,br,IQ hlk]at hk'
    have keep: ∀(i':Nat) (b':Addr),es[i']? =some (kU prog w k,aq b')->TK prog w s.heap k b'->(bZ es (t.put j).snd (kU prog w ks,aq b))[i]? =es[i']? -> ∃b',(bZ es (t.put j).snd (kU prog w ks,aq b))[i]? =some (kU prog w k,aq b')/\TK prog w _ k b':=fun i' b' h1 h2 h3=>⟨b',by rw [h3,h1],TK.at h2 S.get S.dat hsb⟩
    by_cases hlt:i < (t.put j).snd
    ·rw [if_pos hlt,pV,if_pos hlt]at hk'
     obtain⟨b',e1,e2⟩:=k3 i k hk'
     exact keep i b' e1 e2 (by rw [ge i,if_pos hlt])
    ·rw [if_neg hlt]at hk'
     by_cases heq:i=(t.put j).snd
     ·rw [heq,jZ]at hk'
      have:ks=k:=by simpa using hk'
      subst this
      exact⟨b,by rw [ge i,if_neg hlt,if_pos heq],TK.at hk S.get S.dat hsb⟩
     ·rw [show i - (t.put j).snd=(i - (t.put j).snd - 1)+1 by omega,bF,List.getElem?_drop,show(t.put j).snd+(i - (t.put j).snd - 1)=i - 1 by omega]at hk'
      obtain⟨b',e1,e2⟩:=k3 (i - 1) k hk'
      exact keep (i - 1) b' e1 e2 (by rw [ge i,if_neg hlt,if_neg heq])
end
abbrev qk(w:World):Bool:=w.params.followText "set-order"
section
variable {prog:av}{w:World}
def vA(prog:av)(w:World)(h:Heap)(a:Addr)(val:Nat->List Int)(T:Nat->Addr)(i:Nat):Prop:=
 ∃o es ep t,PS prog w (!qk w) h a o es ep t/\es.size<=i/\(∀e∈es.toList, ∃j,j < i/\e=(kU prog w (val j),aq (T j)))/\ ∀j,j < i-> ∃j',j' < i/\(kU prog w (val j'),aq (T j'))∈es.toList/\val j'=val j
theorem TK.keep{h h':Heap}{b:Addr}{ks:List Int}(x:TK prog w h ks b)(k: ∀o,h.get? b=some o->h'.get? b=some o):TK prog w h' ks b:=by
 obtain⟨o,items,n,ho,r⟩:=x
 exact⟨o,items,n,k o ho,r⟩
theorem vA.at{h h':Heap}{a:Addr}{val:Nat->List Int}{T:Nat->Addr}{i:Nat}(x:vA prog w h a val T i)(hk: ∀o,h.get? a=some o->h'.get? a=some o)(ht: ∀j,j < i-> ∀o,h.get? (T j)=some o->h'.get? (T j)=some o):vA prog w h' a val T i:=by
 obtain⟨o,es,ep,t,S,h1,h2,h3⟩:=x
 have mv: ∀ks b v,(v,aq b)∈es.toList->TK prog w h ks b->TK prog w h' ks b:=fun ks b v hm hk=>by
  obtain⟨j,hj,e⟩:=h2 _ hm
  have e2:b=T j:=by injection e with _ z; injection z
  subst e2
  exact hk.keep (ht j hj)
 refine⟨o,es,ep,t,⟨hk o S.get,S.ex,S.dat,S.mask,S.Hw,S.size,S.plain,S.led,S.ie,S.pl,fun e he=> ?_,S.on, ?_⟩,h1,h2,h3⟩
 ·obtain⟨ks,b,rfl,hkk⟩:=S.el e he
  exact⟨ks,b,rfl,mv ks b _ he hkk⟩
 ·obtain⟨kk,k1,k2,k3⟩:=S.nd
  refine⟨kk,k1,k2,fun i k e=> ?_⟩
  obtain⟨b,e1,e2⟩:=k3 i k e
  exact⟨b,e1,mv k b _ (by simpa using By e1) e2⟩
variable {A:bC}{R:Result->ai->Prop}{I:Addr}{fp wr:List Addr}{G:Array GenState->Array GenState->Prop}{n:Nat}{P:Nat->Value->Prop}{St:Nat->ai->Prop}
theorem B5(W:WalksS prog w A.in1 I fp wr G n P St)(hu:A.units+8 < cLine)(S:Addr)(hSf:S∉fp)(val:Nat->List Int)(T:Nat->Addr)(hval: ∀i v,P i v->v=aq (T i))(hT: ∀i,i < n->T i∉wr/\T i≠S)(hn:n<=4):
  ∀(k i:Nat) (s:ai),n - i=k->i<=n->St i s->vA prog w s.heap S val T i->(∀j,j < n->TK prog w s.heap (val j) (T j))->
   (∀s',Moved (S::wr) G s s'->vA prog w s'.heap S val T n->R (.ok (.ret .none)) s')->
   f9 (model prog w) A (.builtin "set.update.loop" ⟨[.ref S, .ref I], []⟩) R s:=by
 have hSw:S∉wr:=fun h=>hSf (W.sub _ h)
 have hsub: ∀b∈wr,b∈S::wr:=fun b hb=>bY _ hb
 intro k
 induction k with
 | zero=>
  intro i s hk hi hst hS hTK hR
  have hin:i=n:=by omega
  subst hin
  refine cZ PyProof.Rows.F.entry_set_update_loop ?_
  rw [cC gY _]
  show wpAny _ A.in1 (gF (.ref I) >>=_) _ _ s
  refine aa (W.done s _ _ hst fun s' hm=> ?_)
  show wpAny _ A.in1 (ret bf) _ _ s'
  exact ag (hR s' (hm.mono hsub) (hS.at (fun o e=>hm.heap S o hSw e) fun j hj o e=>hm.heap _ o (hT j hj).1 e))
 | succ k ih=>
  intro i s hk hi hst hS hTK hR
  have hlt:i < n:=by omega
  refine cZ PyProof.Rows.F.entry_set_update_loop ?_
  rw [cC gY _]
  show wpAny _ A.in1 (gF (.ref I) >>=_) _ _ s
  refine aa (W.item i s _ _ hlt hst fun v s' hP hst' hm=> ?_)
  have hv:=hval i v hP
  subst hv
  have hTK': ∀j,j < n->TK prog w s'.heap (val j) (T j):=fun j hj=>(hTK j hj).keep fun o e=>hm.heap _ o (hT j hj).1 e
  have hS':vA prog w s'.heap S val T i:=hS.at (fun o e=>hm.heap S o hSw e) fun j hj o e=>hm.heap _ o (hT j (by omega)).1 e
  show wpAny _ A.in1 (jW [aq (T i)] (setAdd S (.ref (T i))) >>=_) _ _ s'
  refine aa (bq ?_)
  unfold setAdd
  refine bq ?_
  refine aa (wpAny_pyHash_tuple (by show A.units+1 < cLine; omega) (hTK' i hlt) ?_)
  obtain⟨o,es,ep,t,PSx,q1,q2,q3⟩:=hS'
  have next: ∀h':Heap,aW S s'.heap h'->vA prog w h' S val T (i+1)-> ∀tk,s'.toks<=tk->
    f9 (model prog w) A (.builtin "set.update.loop" ⟨[.ref S, .ref I], []⟩) R {s' with heap:=h',toks:=tk}:=fun h' hsb hSi tk htk=>by
   refine ih (i+1) _ (by omega) hlt (W.frame _ s' _ _ hst' htk fun b hb o e=> ?_) hSi (fun j hj=>(hTK' j hj).keep fun o e=>by rw [hsb.2 _ (hT j hj).2]; exact e) fun s'' hm'' hS''=> ?_
   ·rw [hsb.2 b (fun h:b=S=>hSf (by rw [<-h]; exact hb))]; exact e
   ·refine hR s'' (Moved.trans W.gtrans ((hm.mono hsub).then_heap htk fun b o hb e=> ?_) hm'') hS''
    rw [hsb.2 b (fun h:b=S=>hb (by rw [h]; exact bO))]; exact e
  refine JD (s:={s' with toks:=s'.toks+((val i).length+1)}) (by show A.units+1 < cLine; omega) PSx (by omega) (hTK' i hlt) (fun hx=> ?_) fun h' o' es' t' hsb PSy hm2 hsz=> ?_
  ·refine ag ⟨dg gY _,next s'.heap (bN S s'.heap) ⟨o,es,ep,t,PSx,by omega,fun e he=> ?_,fun j hj=> ?_⟩ _ (Nat.le_add_right _ _)⟩
   ·obtain⟨j,hj,e1⟩:=q2 e he
    exact⟨j,by omega,e1⟩
   ·by_cases hji:j=i
    ·subst hji
     obtain⟨b',hb',hk'⟩:=hx
     obtain⟨j',hj',e1⟩:=q2 _ hb'
     have e2:b'=T j':=by injection e1 with _ e3; injection e3
     rw [e2]at hk' hb'
     have e4:val j'=val j:=n9 (hTK' j' (by omega)) hk'
     refine⟨j',by omega, ?_,e4⟩
     rw [e4]
     exact hb'
    ·obtain⟨j',hj',e1,e2⟩:=q3 j (by omega)
     exact⟨j',by omega,e1,e2⟩
  ·refine ag ⟨dg gY _,next h' hsb ⟨o',es',ep+1,t',PSy,by omega,fun e he=> ?_,fun j hj=> ?_⟩ _ (Nat.le_add_right _ _)⟩
   ·rcases(hm2 e).mp he with he | he
    ·obtain⟨j,hj,e1⟩:=q2 e he
     exact⟨j,by omega,e1⟩
    ·exact⟨i,by omega,he⟩
   ·by_cases hji:j=i
    ·subst hji
     exact⟨j,by omega,(hm2 _).mpr (.inr rfl),rfl⟩
    ·obtain⟨j',hj',e1,e2⟩:=q3 j (by omega)
     exact⟨j',by omega,(hm2 _).mpr (.inl e1),e2⟩
end
section
variable {prog:av}{w:World}{A:bC}{E:Value->ai->Prop}{s:ai}
theorem xE(a:Value){Q₁:Value->ai->Prop}(h:Q₁ (.ref s.heap.objs.size) {s with heap:=s.heap.push {cls:= .type "set",dict:=none,data:= .set #[] 0 (.fresh 0 0 (!qk w))}}):
  f9 (model prog w) A (.call (.builtin "set.__new__") ⟨[.type "set",a], []⟩) (wants Q₁ E) s:=by
 refine codeAny_of_tree ?_
 show wpAny _ A.in1 (do checkBuiltinCall "set.__new__" ⟨[.type "set",a], []⟩; again (.builtin "set.__new__" ⟨[.type "set",a], []⟩)) _ _ s
 refine aa (n_ (PySem.F.newCall_set_1 a) (ag ⟨dg PySem.F.plain_set_new _,cZ PySem.F.entry_set_new ?_⟩))
 rw [cC PySem.F.plain_set_new _]
 unfold cP.«set.__new__» Builtin.Frozenset.newClass
 have hsub:=PySem.sub_set_self
 obtain⟨hp,g,d,tk,os⟩:=s
 dsimp only
 wp_walk
 refine lR (ag ?_)
 dsimp only
 simp only [newObj]
 refine aa (wpAny_alloc (ag ?_))
 exact ag h
set_option maxHeartbeats 3200000 in
theorem Fv{l:Addr}{items:Array Value}{n:Nat}{val:Nat->List Int}{T:Nat->Addr}{Q:Value->ai->Prop}(hh:A.handled=none)(hu:A.units+16 < cLine)(hl:s.heap.IsList l items)(hn:items.size=n)(h4:n<=4)
  (hi: ∀i,i < n->items[i]? =some (.ref (T i)))(hTK: ∀i,i < n->TK prog w s.heap (val i) (T i))
  (h: ∀(h':Heap) (tk:Nat),vA prog w h' s.heap.objs.size val T n->(∀b o,b < s.heap.objs.size->s.heap.get? b=some o->h'.get? b=some o)->Q (.ref s.heap.objs.size) {s with heap:=h',toks:=tk}):
  wpAny (model prog w) A (call (.type "set") [.ref l]) Q E s:=by
 obtain⟨c,tl,hmro⟩:=eU.mro
 have hmade:=eU.made
 have hsub:=eU.sub
 refine wpAny_call (codeAny_of_tree ?_)
 show wpAny _ _ (callAny (.type "set") _) _ _ _
 refine ag ⟨Code.quiet_builtin _ (by decide +kernel),cZ PySem.F.entry_type_call ?_⟩
 rw [Around.under_plain (weight_type_call_type "set" [.ref l] []) rfl]
 have h1:=eU.notType
 have h2:=eU.canCreate
 have hct:=PySem.F.typeCall_set_1 (.ref l)
 repeat (any_goals (first | assumption | wp_step))
 refine mr (xE (.ref l) (E:=E) (Q₁:=fun obj s₁=>obj= .ref s.heap.objs.size/\s₁={s with heap:=s.heap.push {cls:= .type "set",dict:=none,data:= .set #[] 0 (.fresh 0 0 (!qk w))}}) ⟨rfl,rfl⟩) fun r s₁ hr=> ?_
 cases r with
 | error e=>exact hr
 | ok fl=>
  cases fl with
  | ret obj=>
   obtain⟨rfl,rfl⟩:=hr
   have hS:(s.heap.push {cls:= .type "set",dict:=none,data:= .set #[] 0 (.fresh 0 0 (!qk w))}).get? s.heap.objs.size=some {cls:= .type "set",dict:=none,data:= .set #[] 0 (.fresh 0 0 (!qk w))}:=ar _ rfl
   have hT1:gu {s with heap:=s.heap.push {cls:= .type "set",dict:=none,data:= .set #[] 0 (.fresh 0 0 (!qk w))}} (.ref s.heap.objs.size) "set":=⟨_,hS,rfl⟩
   have hli:=eU.init.lookup
   have hbi:=eU.init.bind (.ref s.heap.objs.size)
   repeat (any_goals (first | assumption | wp_step))
   refine mr (codeAny_call_builtin (R:=wants (fun r s₂=>r= .none/\ ∃h' tk,s₂={s with heap:=h',toks:=tk}/\vA prog w h' s.heap.objs.size val T n/\
     (∀b o,b < s.heap.objs.size->s.heap.get? b=some o->h'.get? b=some o)) E) eU.init.plain PySem.F.entry_set_init (check_set_init_1 hT1 ?_)) fun r₂ s₂ hr₂=> ?_
   ·obtain⟨ol,hol,hcl,nl,hdl⟩:=hl
    obtain⟨ocls,odict,odata,oslots⟩:=ol
    simp only at hcl hdl
    subst hcl; subst hdl
    have hol':(s.heap.push {cls:= .type "set",dict:=none,data:= .set #[] 0 (.fresh 0 0 (!qk w))}).get? l=some {cls:= .type "list",dict:=odict,data:= .seq items nl,slots:=oslots}:=af _ hol
    have hsls:=PySem.F.sub_list_set
    have hslf:=PySem.F.sub_list_frozenset
    have hne:(cz "list"==cz "dict")=false:=by decide
    have hl1:(s.heap.push {cls:= .type "set",dict:=none,data:= .set #[] 0 (.fresh 0 0 (!qk w))}).IsList l items:=⟨_,hol',rfl,nl,rfl⟩
    unfold cP.«set.__init__» noKeywords Builtin.Frozenset.updateFrom
    generalize hPI:sT=PI
    wp_walk
    subst hPI
    refine kX hl1 ?_
    refine aa (wH ?_)
    have hlS:l < s.heap.objs.size:=au hol
    have hneI:l≠(s.heap.push {cls:= .type "set",dict:=none,data:= .set #[] 0 (.fresh 0 0 (!qk w))}).objs.size:=by
     rw [bX]; exact aF (cB hlS)
    have hSf:s.heap.objs.size∉ [(s.heap.push {cls:= .type "set",dict:=none,data:= .set #[] 0 (.fresh 0 0 (!qk w))}).objs.size,l]:=by
     rw [bX]; simp only [aO,aK,c9,or_false,not_or]
     exact⟨aF (fU _),bH hlS⟩
    have ltT: ∀i,i < n->T i < s.heap.objs.size:=fun i hi'=>by obtain⟨o,_,_,ho,_⟩:=hTK i hi'; exact au ho
    refine B5 ((Walks.list (by simp [hh]) _ l hneI items).toS) (by simp only [gX]; omega) s.heap.objs.size hSf val T (fun i v hv=> ?_) (fun i hi'=>⟨?_,aF (ltT i (by omega))⟩) (by omega) (items.size - 0) 0 _ (by omega) (bW _)
     ⟨⟨_,ar _ rfl,rfl,rfl⟩,(hl1.push _)⟩ ⟨_, #[],0, .fresh 0 0 (!qk w),⟨af _ hS,⟨rfl,rfl,rfl⟩,rfl,rfl,rfl,rfl,rfl,rfl,by decide,Dz,(fun e he=>by simp at he),(fun i e he=>by simp at he),⟨[],rfl,nZ,fun i k e=>by simp at e⟩⟩,ay _,fun e he=>by simp at he,fun j hj=>by omega⟩
     (fun j hj=>(hTK j (by omega)).keep fun o e=>af _ (af _ e)) ?hR
    ·have hlt:i < n:=by rw [<-hn]; exact(dj.mp hv).1
     have:=hi i hlt
     rw [hv]at this
     exact aA this
    ·intro z
     have:=ltT i (by omega)
     simp only [aO,c9,or_false]at z
     rw [bX]at z
     exact absurd z (aF (cB this))
    case hR=>
     intro s' hm hS'
     obtain⟨h',g',d',tk',os'⟩:=s'
     have eg:g'=s.gens:=hm.gens
     have ed:d'=s.drawn:=hm.drawn
     have eo:os'=s.os:=hm.os
     subst eg; subst ed; subst eo
     show wpAny _ _ _ _ _ _
     refine ag ?_
     show wpAny _ _ (ret bf) _ _ _
     refine ag ⟨rfl,h',tk',rfl,by rw [<-hn]; exact hS',fun b o hb e=> ?_⟩
     have hb1:b≠s.heap.objs.size:=aF hb
     have hb2:b≠(s.heap.push {cls:= .type "set",dict:=none,data:= .set #[] 0 (.fresh 0 0 (!qk w))}).objs.size:=by
      rw [bX]; exact aF (cB hb)
     exact hm.heap b o (by simp only [aO,aK,c9,or_false,not_or]; exact⟨hb1,hb2⟩) (af _ (af _ e))
   ·cases r₂ with
    | error e=>exact hr₂
    | ok fl₂=>
     cases fl₂ with
     | ret r=>
      obtain⟨rfl,h',tk,rfl,hS',hk'⟩:=hr₂
      repeat (any_goals (first | assumption | wp_step))
      exact h _ _ hS' hk'
     | _=>exact hr₂.elim
  | _=>exact hr.elim
end
namespace F
theorem rM:entryFor table "set.__iter__"=some cP.«frozenset.__iter__» :=entryFor_alias (id':="frozenset.__iter__") (by kernel_rfl) rfl (by decide +kernel) (by kernel_rfl)
theorem args_set_iter_1(a:Value):argsOk "set.__iter__" ⟨[a], []⟩:=by unfold argsOk; kernel_rfl
theorem ir:Slot "set_iterator" "__next__" "set_iterator.__next__":=
 .of (owner:="set_iterator") (n:="__next__") (by rw [IS,Bz]; kernel_rfl) (by decide +kernel) (by decide +kernel) (by decide +kernel)
  (by first | exact .inl (by decide +kernel) | exact .inr (by decide +kernel)) (by rw [og]; kernel_rfl)
theorem qj:entryFor table "set_iterator.__next__"=some cP.«set_iterator.__next__» :=entryFor_of_tree (by kernel_rfl)
theorem pG(a:Value):argsOk "set_iterator.__next__" ⟨[a], []⟩:=by unfold argsOk; kernel_rfl
theorem md:Slot "set_iterator" "__iter__" "set_iterator.__iter__":=
 .of (owner:="set_iterator") (n:="__iter__") (by rw [IS,Bz]; kernel_rfl) (by decide +kernel) (by decide +kernel) (by decide +kernel)
  (by first | exact .inl (by decide +kernel) | exact .inr (by decide +kernel)) (by rw [og]; kernel_rfl)
theorem qg:entryFor table "set_iterator.__iter__"=some cP.«dict_keyiterator.__iter__» :=entryFor_alias (id':="dict_keyiterator.__iter__") (by kernel_rfl) rfl (by decide +kernel) (by kernel_rfl)
theorem pI(a:Value):argsOk "set_iterator.__iter__" ⟨[a], []⟩:=by unfold argsOk; kernel_rfl
theorem Ht:typeLookup (.type "set") "__len__"=pure (some (.builtin "set.__len__")):=by rw [IS,Bz]; kernel_rfl
end F
theorem AU{α:Type}(next:Nat->Nat): ∀(fuel k:Nat) (left:List α) (out:Array α),left.length=fuel->(pickOrder.go next fuel k left out).toList.Perm (out.toList ++ left)
 | 0,k,left,out,h=>by
  have:left= []:=lQ.mp h
  subst this
  show out.toList.Perm _
  rw [bJ]
 | fuel+1,k,left,out,h=>by
  have hpos:0 < left.length:=by omega
  have hlt:next k % left.length < left.length:=Nat.mod_lt _ hpos
  have e:left[next k % left.length]? =some left[next k % left.length]:=ah hlt
  show(match left[next k % left.length]? with | some x=>pickOrder.go next fuel (k+1) (left.eraseIdx (next k % left.length)) (out.push x) | none=>out).toList.Perm _
  rw [e]
  dsimp only
  refine(AU next fuel (k+1) _ _ (by rw [kq hlt]; omega)).trans ?_
  rw [iV,aP]
  refine dG _ ?_
  generalize next k % left.length=j at hlt
  have: ∀(l:List α) (j:Nat) (h:j < l.length),([l[j]] ++ l.eraseIdx j).Perm l:=by
   intro l
   induction l with
   | nil=>intro j h; simp at h
   | cons a l ih=>
    intro j h
    cases j with
    | zero=>exact cR _
    | succ j=>
     have h':j < l.length:=by simpa using h
     refine jP (List.Perm.swap _ _ _) ?_
     exact List.Perm.cons a (ih j h')
  exact this left j hlt
theorem Cm{α:Type}(next:Nat->Nat)(xs:Array α):(pickOrder next xs).toList.Perm xs.toList:=by
 unfold pickOrder
 refine(AU next xs.size 0 xs.toList #[] (by simp)).trans ?_
 simp
section
variable {prog:av}{w:World}
def kO(w:World)(a:Addr)(ep:Nat)(es:Array (Int×Value)):Array (Int×Value):=if qk w then pickOrder (w.params.setOrder a ep) es else es
theorem yt(w:World)(a:Addr)(ep:Nat)(es:Array (Int×Value)):(kO w a ep es).toList.Perm es.toList:=by
 unfold kO
 split
 ·exact Cm _ _
 ·exact cR _
theorem rR(w:World)(a:Addr)(ep:Nat)(es:Array (Int×Value)):(kO w a ep es).size=es.size:=by
 have:=(yt w a ep es).length_eq
 simpa using this
def iC(w:World)(t:cM)(i:Nat):Nat:=if qk w then 0 else if i=0 then 0 else t.place.getD (i - 1) 0+1
def lM(w:World)(a:Addr)(ep n:Nat)(t:cM)(i:Nat):Obj:={cls:= .type "set_iterator",data:= .fields #[.int (iC w t i) 0, .int i 0, .ref a, .int n 0, .int ep 0]}
variable {a:Addr}{o:Obj}{es:Array (Int×Value)}{ep:Nat}{t:cM}{A:bC}{E:Value->ai->Prop}{s:ai}
structure PF(led:Bool)(o:Obj)(es:Array (Int×Value))(ep:Nat)(t:cM):Prop where
 ex:o.ExactSet
 dat:o.data= .set es ep t
 mask:t.mask=7
 Hw:t.dummies= #[]
 size:t.place.size=es.size
 plain:t.plain=true
 led:t.led=led
 ie:es.size<=4
 pl:t.place.toList∈subs
theorem PS.pf{led:Bool}{h:Heap}(S:PS prog w led h a o es ep t):PF led o es ep t:=⟨S.ex,S.dat,S.mask,S.Hw,S.size,S.plain,S.led,S.ie,S.pl⟩
theorem PF.fits{led:Bool}(S:PF led o es ep t):t.fits es.size=true:=by
 unfold SetTable.fits SetTable.fill
 rw [S.size,S.Hw,S.mask]
 have:=S.ie
 simp
 omega
theorem PF.state{led:Bool}{Q:(Array (Int×Value)×Nat×cM)->ai->Prop}(S:PF led o es ep t)(hg:s.heap.get? a=some o)(h:Q (es,ep,t) s):wpAny (model prog w) A (setState a) Q E s:=
 wpAny_setState_of hg S.dat S.fits h
theorem GK{Q:Option (Value×Nat)->ai->Prop}{i:Nat}(S:PF (!qk w) o es ep t)(hg:s.heap.get? a=some o)(hi:i<=es.size)
  (h:Q (((kO w a ep es)[i]?).map fun e=>(e.2,iC w t (i+1))) s):wpAny (model prog w) A (setNext a (iC w t i) i ep) Q E s:=by
 unfold setNext
 refine aa (S.state hg ?_)
 unfold setsByText
 refine aa (aa (lR (ag ?_)))
 have hfx:({program:=(model prog w).prog,params:=(model prog w).w.params}:Setting).params.followText "set-order"=qk w:=rfl
 rw [hfx]
 by_cases hb:qk w=true
 ·rw [if_pos hb]
  dsimp only
  rw [if_neg (by simp)]
  unfold setWalk setsByText
  refine aa (aa (S.state hg ?_))
  refine aa (aa (lR (ag ?_)))
  rw [hfx,if_pos hb]
  refine aa (lR (ag (ag ?_)))
  have e1:iC w t (i+1)=0:=by unfold iC; rw [if_pos hb]
  have e2:iC w t i=0:=by unfold iC; rw [if_pos hb]
  rw [e1]at h
  rw [e2]
  unfold kO at h
  rw [if_pos hb]at h
  exact h
 ·rw [if_neg hb]
  dsimp only
  split
  ·rename_i hd
   have hd':(!t.plain&&decide (es.size > 1))=true:=hd
   rw [S.plain]at hd'
   cases hd'
  ·refine aa ?_
   show wpAny (model prog w) A (if(!t.led&& !es.isEmpty)=true then iE "set:maker-not-led" else pure ()) _ _ _
   have hbf:qk w=false:=by simpa using hb
   have hled:t.led=true:=by rw [S.led,hbf]; rfl
   rw [hled,if_neg (by simp)]
   refine ag (ag ?_)
   have e0:iC w t i=if i=0 then 0 else t.place.getD (i - 1) 0+1:=by unfold iC; rw [if_neg hb]
   have hix:cQ t.place (iC w t i)=i:=by rw [e0]; exact Dq S.pl (by rw [S.size]; exact hi)
   rw [hix]
   unfold kO at h
   rw [if_neg hb]at h
   by_cases hlt:i < es.size
   ·have h1:es[i]? =some es[i]:=cT hlt
    have hlt2:i < t.place.size:=by rw [S.size]; exact hlt
    have h2:t.place[i]? =some t.place[i]:=cT hlt2
    rw [h1]at h ⊢
    rw [h2]
    have e1:iC w t (i+1)=t.place[i]+1:=by
     unfold iC
     rw [if_neg hb,if_neg (by omega),Nat.add_sub_cancel]
     congr 1
     simp [Array.getD,hlt2]
    rw [e1]at h
    exact h
   ·have h1:es[i]? =none:=by simp; omega
    rw [h1]at h ⊢
    exact h
theorem Dh{Q:Option Value->ai->Prop}{I:Addr}{i:Nat}(hh:A.handled=none)(S:PF (!qk w) o es ep t)(hg:s.heap.get? a=some o)(hI:s.heap.get? I=some (lM w a ep es.size t i))(hi:i<=es.size)
  (h1: ∀e h',(kO w a ep es)[i]? =some e->h'.get? I=some (lM w a ep es.size t (i+1))->aW I s.heap h'->Q (some e.2) {s with heap:=h'})
  (h2:(kO w a ep es)[i]? =none-> ∀h',tm I s.heap h'->Q none {s with heap:=h'}):wpAny (model prog w) A (gF (.ref I)) Q E s:=by
 have hT:s.TypeIs (.ref I) "set_iterator":=⟨_,hI,rfl⟩
 unfold gF
 refine aa (hV (bM (name:=dP "__next__") hT F.ir (bh F.ir hT F.qj ?_ (F.pG _))))
 unfold cP.«set_iterator.__next__» slotArgs
 simp only [List.isEmpty_nil,eN,aS, ↓reduceIte,bind_assoc,dC,bne_self_eq_false]
 refine aa (ag ?_)
 refine aa (wpAny_fieldsOf hI rfl ?_)
 show wpAny (model prog w) _ (do
  let __do_lift_2<-setEntries a
  if((__do_lift_2.size:Int) !=(es.size:Int))=true then _ else _) _ _ s
 refine aa (wpAny_setEntries_of hg S.dat S.fits ?_)
 rw [if_neg (by simp)]
 show wpAny (model prog w) _ (do
  let __do_lift_3<-setNext a (iC w t i:Int).toNat (i:Int).toNat (ep:Int).toNat
  match __do_lift_3 with
   | some (x,next)=>do
    fw (.ref I) 0 (dI (next:Int))
    fw (.ref I) 1 (dI ((i:Int)+1))
    ret x
   | none=>do
    fw (.ref I) 2 bf
    let __do_lift<-oh (cz "StopIteration") []
    wI __do_lift) _ _ s
 rw [bU,bU,bU]
 refine aa (GK S hg hi ?_)
 cases e:(kO w a ep es)[i]? with
 | some x=>
  dsimp only [uf]
  refine aa (cY hI rfl (by show 0 < 5; decide) ?_)
  have hI2:(s.heap.update I (gw (·.setIfInBounds 0 (dI (iC w t (i+1):Int))))).get? I=some {cls:= .type "set_iterator",data:= .fields #[.int (iC w t (i+1)) 0, .int i 0, .ref a, .int es.size 0, .int ep 0]}:=cU _ hI rfl
  refine aa (cY hI2 rfl (by show 1 < 5; decide) ?_)
  refine ag ⟨_,rfl,ag (h1 x _ e ?_ ((bu ..).trans (bu ..)))⟩
  exact cU _ hI2 rfl
 | none=>
  dsimp only [Option.map_none]
  refine aa (cY hI rfl (by show 2 < 5; decide) ?_)
  show wpAny _ _ (oh (.type "StopIteration") [] >>=_) _ _ _
  refine aa ?_
  simp only [oh,newTuple]
  refine aa (a_ ?_ (by size_fits))
  refine aa (m:=eV _ _) (n_ (a:=bf) (by first | rfl | (simp only [eV]; rfl)) ?_)
  refine a_ ?_ (by size_fits)
  simp only [wI]
  refine aa (o6 ?_)
  rw [show A.in1.handled=none from hh]
  refine aa (ag (tq ?_))
  refine aa (dO (T:="StopIteration") (b:=true) ⟨_,ar _ rfl,rfl⟩ oi ?_)
  exact ag (h2 e _ (((bu ..).extBut.push _).push _))
theorem Cf(hh:A.handled=none)(S:PF (!qk w) o es ep t){I:Addr}(hIa:I≠a):Walks prog w A I [I,a] [I] es.size (fun i v=> ∃e,(kO w a ep es)[i]? =some e/\v=e.2) (fun i h=>h.get? I=some (lM w a ep es.size t i)/\h.get? a=some o/\i<=es.size) where
 sub:=fun b hb=>by rw [aK.mp hb]; exact bO
 frame:=fun i h h' ⟨x,y,z⟩ hk=>⟨hk I (by simp) _ x,hk a (by simp) _ y,z⟩
 item:=fun i s Q E hi ⟨x,y,z⟩ hQ=>Dh hh S y x z (fun e h' he hI' sb=>hQ _ h' s.toks ⟨e,he,rfl⟩ ⟨hI',(sb.2 a hIa.symm).trans y,hi⟩ fun b ob hb q=>(sb.2 b (by simpa using hb)).trans q) fun he=>by
  have:=rR w a ep es
  rw [cT (by omega)]at he
  cases he
 done:=fun s Q E ⟨x,y,z⟩ hQ=>Dh hh S y x z (fun e h' he _ _=>by
  have:=rR w a ep es
  have:=(dj.mp he).1
  omega) fun _ h' eb=>hQ h' s.toks fun b ob hb q=>eb b ob (by simpa using hb) q
 self:=fun i s Q E ⟨x,y,z⟩ hQ=>by
  have hT:s.TypeIs (.ref I) "set_iterator":=⟨_,x,rfl⟩
  refine iW hT F.md (bh F.md hT F.qg ?_ (F.pI _))
  show wpAny _ _ (ret (.ref I)) _ _ s
  exact ag ⟨_,rfl,"set_iterator",_,hT,F.ir.lookup,hQ⟩
theorem EW{Q:Value->ai->Prop}(S:PF (!qk w) o es ep t)(hg:s.heap.get? a=some o)(h:Q (.ref s.heap.objs.size) {s with heap:=s.heap.push (lM w a ep es.size t 0)}):wpAny (model prog w) A (sT (.ref a)) Q E s:=by
 have hT:s.TypeIs (.ref a) "set":=⟨_,hg,S.ex.1⟩
 refine iW hT PySem.F.slot_set_iter (bh PySem.F.slot_set_iter hT F.rM ?_ (F.args_set_iter_1 _))
 unfold cP.«frozenset.__iter__» Builtin.Frozenset.slot0 slotArgs
 simp only [List.isEmpty_nil,eN,aS, ↓reduceIte,bind_assoc,dC,bne_self_eq_false]
 unfold Builtin.Frozenset.addrOf Builtin.Frozenset.sizeOf
 refine aa (ag ?_)
 try dsimp only
 refine aa (ag ?_)
 refine aa (aa (wpAny_setEntries_of hg S.dat S.fits (ag ?_)))
 unfold setDrawn setsByText
 refine aa (aa (S.state hg ?_))
 refine aa (aa (lR (ag (ag ?_))))
 split
 ·rename_i hd
  have hd':((!qk w)&&(!t.plain&&decide (es.size > 1)))=true:=hd
  rw [S.plain]at hd'
  simp at hd'
 refine aa (ag ?_)
 unfold setEpoch
 refine aa (aa (S.state hg (ag ?_)))
 have hs0:iC w t 0=0:=by unfold iC; split <;> rfl
 refine aa (a_ (ag ⟨_,rfl,"set_iterator",_,⟨_,ar _ rfl,rfl⟩,F.ir.lookup, ?_⟩))
 have e:(lM w a ep es.size t 0)={cls:= .type "set_iterator",data:= .fields #[.int ((0:Nat):Int) 0, .int ((0:Nat):Int) 0, .ref a, .int es.size 0, .int ep 0]}:=by unfold lM; rw [hs0]
 rw [e]at h
 exact h
theorem yg{Q:List Value->ai->Prop}(hh:A.handled=none)(S:PF (!qk w) o es ep t)(hg:s.heap.get? a=some o)
  (hQ: ∀h' tk (vs:List Value),s.heap.objs.size < h'.objs.size->(∀b ob,s.heap.get? b=some ob->h'.get? b=some ob)->vs.Perm (es.toList.map (·.2))->Q vs {s with heap:=h',toks:=tk}):wpAny (model prog w) A (collect (.ref a)) Q E s:=by
 have hlt:a < s.heap.objs.size:=au hg
 unfold collect
 refine aa (wH (cZ u7 ?_))
 rw [cC u9 _]
 show wpAny _ A.in1 (u4 [] >>=fun l=>again (.builtin "list.__iadd__" ⟨[l, .ref a], []⟩)) _ _ s
 refine aa (a_ ?_)
 refine ag ⟨dg fW _,cZ y4 ?_⟩
 rw [cC fW _]
 have hg1:(s.heap.push {cls:= .type "list",data:= .seq ([]:List Value).toArray}).get? a=some o:=af _ hg
 have hS₁:(s.heap.push {cls:= .type "list",data:= .seq ([]:List Value).toArray}).get? s.heap.objs.size=some {cls:= .type "list",data:= .seq ([]:List Value).toArray}:=ar _ rfl
 have h1:fG (.ref s.heap.objs.size) (.ref a)=false:=by simp [fG,bH hlt]
 have hT:gu {s with heap:=s.heap.push {cls:= .type "list",data:= .seq ([]:List Value).toArray}} (.ref a) "set":=⟨_,hg1,S.ex.1⟩
 show wpAny _ A.in1 (eJ (.ref s.heap.objs.size) (.ref a) (.ref s.heap.objs.size)) _ _ _
 unfold eJ
 refine aa (fj hT ?_)
 rw [if_neg (by rw [h1]; decide)]
 refine aa (EW (s:={s with heap:=s.heap.push {cls:= .type "list",data:= .seq ([]:List Value).toArray}}) S hg1 ?_)
 refine aa (bq ?_)
 unfold u_
 have hT2:gu {s with heap:=(s.heap.push {cls:= .type "list",data:= .seq ([]:List Value).toArray}).push (lM w a ep es.size t 0)} (.ref a) "set":=⟨_,af _ hg1,S.ex.1⟩
 refine aa (gq hT2 F.Ht ?_)
 generalize hid:("set.__len__":String)=id0
 dsimp only
 rw [show splitId id0=some ("set","__len__")from by subst hid; decide +kernel]
 subst hid
 dsimp only
 refine aa (dO (b:=true) hT2 (by rw [og]; kernel_rfl) ?_)
 rw [if_neg (show ¬(!true)=true by decide)]
 refine cG (fun _=> ?_) fun hs=>(hs (by decide +kernel)).elim
 refine aa (fj hT2 (ag ?_))
 have szl:(s.heap.push {cls:= .type "list",data:= .seq ([]:List Value).toArray}).objs.size=s.heap.objs.size+1:=bX ..
 have hne:s.heap.objs.size≠(s.heap.push {cls:= .type "list",data:= .seq ([]:List Value).toArray}).objs.size:=by rw [szl]; exact aF (fU _)
 have hIa:(s.heap.push {cls:= .type "list",data:= .seq ([]:List Value).toArray}).objs.size≠a:=by rw [szl]; exact bH (cB hlt)
 have hL2:((s.heap.push {cls:= .type "list",data:= .seq ([]:List Value).toArray}).push (lM w a ep es.size t 0)).get? s.heap.objs.size=some {cls:= .type "list",data:= .seq ([]:List Value).toArray}:=af _ hS₁
 have hI2:((s.heap.push {cls:= .type "list",data:= .seq ([]:List Value).toArray}).push (lM w a ep es.size t 0)).get? (s.heap.push {cls:= .type "list",data:= .seq ([]:List Value).toArray}).objs.size=some (lM w a ep es.size t 0):=ar _ rfl
 have hk2: ∀b ob,s.heap.get? b=some ob->((s.heap.push {cls:= .type "list",data:= .seq ([]:List Value).toArray}).push (lM w a ep es.size t 0)).get? b=some ob:=fun b ob e=>af _ (af _ e)
 generalize hI0:(s.heap.push {cls:= .type "list",data:= .seq ([]:List Value).toArray}).objs.size=I0 at hne hIa hI2 szl ⊢
 generalize hH0:(s.heap.push {cls:= .type "list",data:= .seq ([]:List Value).toArray}).push (lM w a ep es.size t 0)=H0 at hL2 hI2 hk2 ⊢
 have hg0:=hk2 a o hg
 have fin: ∀(h':Heap) (c:Nat),aW s.heap.objs.size H0 h'->h'.get? s.heap.objs.size=some {cls:= .type "list",dict:=none,data:= .seq #[] c,slots:= #[]}->
   f9 (model prog w) A (.builtin "list.extend.loop" ⟨[.ref s.heap.objs.size, .ref I0, .ref s.heap.objs.size], []⟩) (fun r s'=>match r with
       | sV (Flow.ret v)=>
        wpAny (model prog w) A
         (match v with
         | aq a=>do
          let __do_lift<-load a
          match __do_lift.data with
           | wF xs epoch=>pure xs.toList
           | x=>iE "internal:collect"
         | x=>iE "internal:collect")
         Q E s'
       | sV a=>False
       | Except.error e=>E e s') {s with heap:=h'}:=fun h' c sb hl=>by
  refine codeAny_extend_loopS ((Cf (A:=A.in1) (by simpa using hh) S hIa).toS) (by have:=S.ie; rw [eL]; omega) s.heap.objs.size (by simp only [aO,c9,or_false,not_or]; exact⟨hne,bH hlt⟩) _ es.size 0 _ #[] c (by omega) (bW _)
   ⟨(sb.2 I0 hne.symm).trans hI2,(sb.2 a (aF hlt)).trans hg0,bW _⟩ hl (ItemsOf.nil _) fun s' acc c' hm hS' hacc=> ?_
  dsimp only
  refine aa (wz hS' ?_)
  refine ag ?_
  obtain⟨h2,g',d',tk',os'⟩:=s'
  have eg:g'=s.gens:=hm.gens
  have ed:d'=s.drawn:=hm.drawn
  have eo:os'=s.os:=hm.os
  subst eg; subst ed; subst eo
  refine hQ h2 tk' acc.toList (au hS') (fun b ob e=> ?_) ?_
  ·have hb:=au e
   refine hm.heap b ob ?_ ((sb.2 b (aF hb)).trans (hk2 b ob e))
   simp only [aO,c9,or_false,not_or]
   exact⟨aF hb,by rw [szl]; exact aF (cB hb)⟩
  ·have e:acc.toList=(kO w a ep es).toList.map (·.2):=by
    apply cA
    intro i
    rw [aj]
    by_cases hi:i < es.size
    ·have hi2:i < acc.size:=by rw [hacc.1]; exact hi
     have h1:acc[i]? =some acc[i]:=cT hi2
     obtain⟨e,he,hv⟩:=hacc.2 i _ h1
     have h3:acc.toList[i]? =some acc[i]:=by rw [bz]; exact h1
     have h4:(kO w a ep es).toList[i]? =some e:=by simpa using he
     rw [h3,h4,hv]
     rfl
    ·have h1:acc.toList[i]? =none:=aI (by rw [ak,hacc.1]; omega)
     have h2:(kO w a ep es).toList[i]? =none:=aI (by rw [ak,rR]; omega)
     rw [h1,h2]
     rfl
   rw [e]
   exact(yt w a ep es).map _
 refine cG (fun _=> ?_) fun _=> ?_
 ·refine aa (c7 ?_)
  unfold An
  refine aa (aa (hW hL2 rfl ?_ (by show 0<=_; omega) (by show 1<=_; rw [eL]; omega)))
  have hL3:=ff hL2 fun x=>x.push bf
  refine hW hL3 rfl ?_ (by show 1<=_; rw [eL]; omega) (by show 0<=_; omega)
  have hL4:=ff hL3 fun x=>x.pop
  exact ag ⟨dg cD _,fin _ _ ((bu ..).trans (bu ..)) hL4⟩
 ·exact ag ⟨dg cD _,fin _ _ (bN _ _) hL2⟩
end
end Z
namespace Z
open PySem PySem.Spec PyProof.Rows L2
def DP(X:Cx)(ρ:eZ)(e:Expr)(P:D->Prop):Prop:= ∀(M0:MP) (H0:Hp) (γ:List (D×V)) (α:Nat->Addr) (σ:St) (H:Hp) (Q:VK),Rep X.K M0 H0 γ α ρ σ H->
 (∀d v H',P d->bP H H'->Dn X.K (MM M0 ρ α) H' d v->Q v H')->tE X e σ H Q
section
variable {X:Cx}{ρ:eZ}{M0:MP}{H0:Hp}{P:pE}{e a b:Expr}{d:D}{ds:List D}{pos pos' p p2 p3 p4 p5:Pos}
theorem az.toP{R:D->Prop}(h:az X ρ e d)(q:R d):DP X ρ e R:=fun M0 H0 γ α σ H Q r k=>h M0 H0 γ α σ H Q r fun v H' s x=>k d v H' q s x
def pairD(p:Int×Int):D:= .tup [.int p.1, .int p.2]
def sk(p:Int×Int):List V:= [.int p.1, .int p.2]
def wN(p:Int×Int):List Int:= [p.1,p.2]
theorem Iy{pins:List (Addr×Obj)}{σ:St}{H:Hp}{s:ai}(I:Inv X pins σ H s){b:Addr}{p:Int×Int}(h:i5 X.K H b (sk p)):TK X.prog X.w s.heap (wN p) b:=by
 obtain⟨its,r,⟨o,ho,hc,n,hd⟩,_⟩:=I.tuple h
 refine⟨o,its.toArray,n,ho,hc,hd, ?_⟩
 show kr (fJ X.prog X.w) [p.1,p.2] its
 cases r with
 | cons r1 r2=>
  cases r2 with
  | cons r2 r3=>
   cases r3
   obtain⟨t1,rfl⟩:=r1
   obtain⟨t2,rfl⟩:=r2
   exact .cons (intKind_is _ _ _ _) (.cons (intKind_is _ _ _ _) .nil)
theorem pairs_at{K:Frag}{M:MP}{H:Hp}: ∀{ps:List (Int×Int)} {xs:List V},cE K M H (ps.map pairD) xs-> ∃T:Nat->Addr, ∀(j:Nat) (p:Int×Int),ps[j]? =some p->xs[j]? =some (.ref (T j))/\i5 K H (T j) (sk p)
 | [],_,_=>⟨fun _=>0,fun j p h=>by simp at h⟩
 | p::ps,xs,⟨v,r,e,⟨a,ys,hv,sq,y1,r1,e1,h1,y2,r2,e2,h2,e3⟩,h⟩=>by
  obtain⟨T,hT⟩:=pairs_at h
  refine⟨fun j=>match j with | 0=>a | j+1=>T j,fun j q hq=> ?_⟩
  subst e
  cases j with
  | zero=>
   have:p=q:=by simpa using hq
   subst this
   have e4:ys=sk p:=by
    rw [e1,e2,e3,show y1=V.int p.1 from h1,show y2=V.int p.2 from h2]
    rfl
   rw [e4]at sq
   exact⟨by rw [hv]; rfl,sq⟩
  | succ j=>
   obtain⟨q1,q2⟩:=hT j q (by simpa using hq)
   exact⟨by simpa using q1,q2⟩
end
end Z
namespace Z
open PySem PySem.Spec PyProof.Rows
section
variable {prog:av}{w:World}{A:bC}{E:Value->ai->Prop}{s:ai}
theorem lg{M:Model}{a:Addr}{Q:Option Obj->ai->Prop}(h: ∀r,Q r s):wpAny M A (oj a) Q E s:=fun _ _ _=>h _
theorem gA{it t:Addr}{i:Nat}{items:Array Value}{x:Value}{Q:Value->ai->Prop}(hit:s.heap.IsTupleIter it t i)(ht:s.heap.IsTuple t items)(hx:items[i]? =some x)
  (hQ: ∀h',h'.IsTupleIter it t (i+1)->aW it s.heap h'->Q x {s with heap:=h'}):wpAny (model prog w) A (aG (.ref it)) Q E s:=by
 obtain⟨o,ho,hc,hd⟩:=id hit
 obtain⟨ol,hol,_,nl,hdl⟩:=ht
 have hT:s.TypeIs (.ref it) "tuple_iterator":=⟨o,ho,hc⟩
 unfold aG
 refine aa (bM (name:=dP "__next__") hT iX (bh iX hT PySem.F.entry_tuple_iterator_next ?_ (PySem.F.args_tuple_iterator_next_1 _)))
 show wpAny _ _ (field (.ref it) 0 >>=_) _ _ s
 refine aa (aU ho hd (x:= .ref t) rfl ?_)
 show wpAny _ _ (if(aq t==bf)=true then _ else _) _ _ s
 rw [if_neg (show ¬((aq t==bf)=true)from aC)]
 show wpAny _ _ (field (.ref it) 1 >>=_) _ _ s
 refine aa (aU ho hd (x:= .int i 0) rfl ?_)
 show wpAny _ _ (seqItems? (.ref t) >>=_) _ _ s
 refine aa (bR hol hdl ?_)
 simp only [bU,hx]
 refine aa (cY ho hd (by simp) (ag ⟨x,rfl,ag (hQ _ ?_ (bu ..))⟩))
 exact⟨_,cU _ ho (i9 (f_ hd _)),(Gg ..).trans hc,by rw [f_ hd]; simp [dI]⟩
theorem fB{it t:Addr}{i:Nat}{items:Array Value}{Q:Value->ai->Prop}(hh:A.handled=none)(hit:s.heap.IsTupleIter it t i)(ht:s.heap.IsTuple t items)(hx:items[i]? =none)
  (hE: ∀h' e,tm it s.heap h'->(∃o,h'.get? e=some o/\o.cls= .type "StopIteration")->E (.ref e) {s with heap:=h'}):wpAny (model prog w) A (aG (.ref it)) Q E s:=by
 obtain⟨o,ho,hc,hd⟩:=id hit
 obtain⟨ol,hol,_,nl,hdl⟩:=ht
 have hT:s.TypeIs (.ref it) "tuple_iterator":=⟨o,ho,hc⟩
 unfold aG
 refine aa (bM (name:=dP "__next__") hT iX (bh iX hT PySem.F.entry_tuple_iterator_next ?_ (PySem.F.args_tuple_iterator_next_1 _)))
 show wpAny _ _ (field (.ref it) 0 >>=_) _ _ s
 refine aa (aU ho hd (x:= .ref t) rfl ?_)
 show wpAny _ _ (if(aq t==bf)=true then _ else _) _ _ s
 rw [if_neg (show ¬((aq t==bf)=true)from aC)]
 show wpAny _ _ (field (.ref it) 1 >>=_) _ _ s
 refine aa (aU ho hd (x:= .int i 0) rfl ?_)
 show wpAny _ _ (seqItems? (.ref t) >>=_) _ _ s
 refine aa (bR hol hdl ?_)
 simp only [bU,hx]
 refine aa (c7 (aa (cY ho hd (by simp) ?_)))
 show wpAny _ _ (oh (.type "StopIteration") [] >>=_) _ _ _
 refine aa ?_
 simp only [oh,newTuple]
 refine aa (a_ ?_ (by size_fits))
 refine aa (m:=eV _ _) (n_ (a:=bf) (by first | rfl | (simp only [eV]; rfl)) ?_)
 refine a_ ?_ (by size_fits)
 simp only [wI]
 refine aa (o6 ?_)
 rw [show A.in1.handled=none from hh]
 refine aa (ag (tq ?_))
 exact hE _ _ (((bu ..).extBut.push _).push _) ⟨_,ar _ rfl,rfl⟩
def iu(h:Heap)(z TI TO i1 i2:Addr):Prop:=(∃f0 f1,h.get? z=some {cls:= .type "zip",dict:=none,data:= .fields #[f0, .bool f1, .bool false, .ref TI, .ref TO],slots:= #[]}/\(f0= .none\/ ∃T:Nat,f0=dI T))/\eW h TI (.ref i1) (.ref i2)/\ ∃a b,eW h TO a b
structure BS(z TI TO i1 i2:Addr):Prop where
 TIz:TI≠z
 TOz:TO≠z
 i1z:i1≠z
 i2z:i2≠z
 TITO:TI≠TO
 TIi1:TI≠i1
 TIi2:TI≠i2
 TOi1:TO≠i1
 TOi2:TO≠i2
 i12:i1≠i2
theorem BR{z TI TO i1 i2 t1 t2:Addr}{k:Nat}{xs ys:Array Value}{x y:Value}{Q:Value->ai->Prop}(D:BS z TI TO i1 i2)(D1:t1≠z/\t1≠TO/\t1≠i1/\t1≠i2)(D2:t2≠z/\t2≠TO/\t2≠i1/\t2≠i2)(hZ:iu s.heap z TI TO i1 i2)
  (h1:s.heap.IsTupleIter i1 t1 k)(h2:s.heap.IsTupleIter i2 t2 k)(ht1:s.heap.IsTuple t1 xs)(ht2:s.heap.IsTuple t2 ys)(hx:xs[k]? =some x)(hy:ys[k]? =some y)
  (hQ: ∀h',iu h' z TI TO i1 i2->h'.IsTupleIter i1 t1 (k+1)->h'.IsTupleIter i2 t2 (k+1)->eW h' s.heap.objs.size x y->
   (∀c o,c≠z->c≠TO->c≠i1->c≠i2->s.heap.get? c=some o->h'.get? c=some o)->Q (.ref s.heap.objs.size) {s with heap:=h'}):
  wpAny (model prog w) A (cP.«zip.__next__» ⟨[.ref z], []⟩) (fun fin s'=> ∃v,fin= .done (.ret v)/\Q v s') E s:=by
 obtain⟨⟨f0,f1,hz,hf0⟩,hTI,a,b,hTO⟩:=hZ
 have eb: ∀{h h':Heap} {c t:Addr} {j:Nat} {d:Addr},h.IsTupleIter c t j->aW d h h'->c≠d->h'.IsTupleIter c t j:=fun{h h' c t j d} ⟨o,e,r⟩ sb n=>⟨o,(sb.2 c n).trans e,r⟩
 have et: ∀{h h':Heap} {t:Addr} {is:Array Value} {d:Addr},h.IsTuple t is->aW d h h'->t≠d->h'.IsTuple t is:=fun{h h' t is d} ⟨o,e,r⟩ sb n=>⟨o,(sb.2 t n).trans e,r⟩
 have free:wpAny (model prog w) A (ba (.ref z)) (fun fr s1=> ∃h' f1',s1={s with heap:=h'}/\aW z s.heap h'/\h'.get? z=some {cls:= .type "zip",dict:=none,data:= .fields #[f0, .bool f1', .bool false, .ref TI, .ref TO],slots:= #[]}) E s:=by
  unfold ba
  have es:s={s with heap:=s.heap}:=by cases s; rfl
  rcases hf0 with rfl | ⟨T,rfl⟩
  ·exact aa (aU hz rfl (x:= .none) rfl (ag ⟨s.heap,f1,es,bN _ _,hz⟩))
  ·refine aa (aU hz rfl (x:=dI T) rfl ?_)
   show wpAny _ _ (do
    if(<-oj (T:Int).toNat).isNone then return true
    if(<-field (.ref z) 1) != .bool true then fw (.ref z) 1 (.bool true)
    return false) _ _ _
   refine aa (lg fun r=> ?_)
   cases r with
   | none=>
    simp only [pW,if_true]
    exact ag ⟨s.heap,f1,es,bN _ _,hz⟩
   | some ob=>
    simp only [pX,aS,if_false]
    refine aa (aU hz rfl (x:= .bool f1) rfl ?_)
    refine cG (fun _=> ?_) fun _=>ag ⟨s.heap,f1,es,bN _ _,hz⟩
    exact aa (a9 hz (by simp) fun h₁ hz₁ hs₁=>ag ⟨h₁,true,rfl,hs₁,hz₁⟩)
 show wpAny _ _ (field (.ref z) 2 >>=_) _ _ _
 refine aa (aU hz rfl (x:= .bool false) rfl ?_)
 show wpAny _ _ (field (.ref z) 3 >>=_) _ _ _
 refine aa (aU hz rfl (x:= .ref TI) rfl ?_)
 refine aa (bR hTI rfl ?_)
 show wpAny _ _ (ba (.ref z) >>=_) _ _ _
 refine aa (cF free (fun fr s1 hfr=> ?_) fun _ _ x=>x)
 obtain⟨h₀,f1',rfl,hs₀,hz₀⟩:=hfr
 have hTO₀:eW h₀ TO a b:=(hs₀.2 _ D.TOz).trans hTO
 have h1₀:=eb h1 hs₀ D.i1z
 have h2₀:=eb h2 hs₀ D.i2z
 have ht1₀:=et ht1 hs₀ D1.1
 have ht2₀:=et ht2 hs₀ D2.1
 have hTI₀:eW h₀ TI (.ref i1) (.ref i2):=(hs₀.2 _ D.TIz).trans hTI
 have hsz₀:h₀.objs.size=s.heap.objs.size:=hs₀.1
 cases fr with
 | true=>
  simp only [if_true]
  refine aa (c7 ?_)
  refine aa (aU hz₀ rfl (x:= .ref TO) rfl ?_)
  refine aa (a9 hz₀ (by simp) fun h₁ hz₁ hs₁=> ?_)
  refine aa ?_
  simp only [lS,ug,cj,dq]
  refine aa (aa (h_ ?_))
  show wpAny _ _ (aG (.ref i1) >>=_) _ _ _
  refine aa (gA (eb h1₀ hs₁ D.i1z) (et ht1₀ hs₁ D1.1) hx fun h₂ h1₂ hs₂=>ag ?_)
  have hTO₂:eW h₂ TO a b:=(hs₂.2 _ D.TOi1).trans ((hs₁.2 _ D.TOz).trans hTO₀)
  refine aa (bR hTO₂ rfl ?_)
  refine aa (gR hTO₂ fun h₃ hTO₃ hs₃=> ?_)
  replace hTO₃:eW h₃ TO x b:=hTO₃
  refine aa (k8 (ag ?_))
  refine aa (aa (h_ ?_))
  show wpAny _ _ (aG (.ref i2) >>=_) _ _ _
  refine aa (gA (eb (eb (eb h2₀ hs₁ D.i2z) hs₂ D.i12.symm) hs₃ D.TOi2.symm) (et (et (et ht2₀ hs₁ D2.1) hs₂ D2.2.2.1) hs₃ D2.2.1) hy fun h₄ h2₄ hs₄=>ag ?_)
  have hTO₄:eW h₄ TO x b:=(hs₄.2 _ D.TOi2).trans hTO₃
  refine aa (bR hTO₄ rfl ?_)
  refine aa (gR hTO₄ fun h₅ hTO₅ hs₅=> ?_)
  replace hTO₅:eW h₅ TO x y:=hTO₅
  refine aa (k8 (ag (ag ?_)))
  refine aa (bR hTO₅ rfl ?_)
  refine aa (ku ?_)
  have hsz:h₅.objs.size=s.heap.objs.size:=by rw [hs₅.1,hs₄.1,hs₃.1,hs₂.1,hs₁.1,hsz₀]
  have k05: ∀c,c≠z->c≠TO->c≠i1->c≠i2->h₅.get? c=s.heap.get? c:=fun c c1 c2 c3 c4=>by
   rw [hs₅.2 c c2,hs₄.2 c c4,hs₃.2 c c2,hs₂.2 c c3,hs₁.2 c c1,hs₀.2 c c1]
  have hz₅:h₅.get? z=h₁.get? z:=by rw [hs₅.2 z D.TOz.symm,hs₄.2 z D.i2z.symm,hs₃.2 z D.TOz.symm,hs₂.2 z D.i1z.symm]
  rw [hz₁]at hz₅
  have h1₅:h₅.IsTupleIter i1 t1 (k+1):=eb (eb (eb h1₂ hs₃ D.TOi1.symm) hs₄ D.i12) hs₅ D.TOi1.symm
  have h2₅:h₅.IsTupleIter i2 t2 (k+1):=eb h2₄ hs₅ D.TOi2.symm
  show wpAny _ _ (gZ (.ref z) (.ref h₅.objs.size) >>=_) _ _ _
  refine aa ?_
  unfold gZ
  have hz₆:(h₅.push {cls:= .type "tuple",data:= .seq #[x,y]}).get? z=_:=af _ hz₅
  refine aa (a9 hz₆ (by simp) fun h₇ hz₇ hs₇=> ?_)
  refine a9 hz₇ (by simp) fun h₈ hz₈ hs₈=> ?_
  have up: ∀c o,c≠z->h₅.get? c=some o->h₈.get? c=some o:=fun c o c1 e=>(hs₈.2 c c1).trans ((hs₇.2 c c1).trans (af _ e))
  have hzlt:z < h₅.objs.size:=au hz₅
  have hT₈:eW h₈ h₅.objs.size x y:=(hs₈.2 _ (bH hzlt)).trans ((hs₇.2 _ (bH hzlt)).trans (ar _ rfl))
  refine ag ⟨_,rfl, ?_⟩
  show Q (.ref h₅.objs.size) _
  rw [hsz]at hT₈ ⊢
  refine hQ h₈ ⟨⟨_,_,hz₈, .inr ⟨h₅.objs.size,rfl⟩⟩,up _ _ D.TIz ((k05 TI D.TIz D.TITO D.TIi1 D.TIi2).trans hTI),x,y,up _ _ D.TOz hTO₅⟩ ?_ ?_ hT₈ fun c o c1 c2 c3 c4 e=>up c o c1 ((k05 c c1 c2 c3 c4).trans e)
  ·obtain⟨o,e,r⟩:=h1₅; exact⟨o,up _ _ D.i1z e,r⟩
  ·obtain⟨o,e,r⟩:=h2₅; exact⟨o,up _ _ D.i2z e,r⟩
 | false=>
  simp only [aS,if_false]
  rw [<-dM]
  refine aa ?_
  show wpAny _ _ (forIn [aq i1,aq i2] _ _) _ _ _
  simp only [cj,dq]
  refine aa (aa (bq ?_))
  show wpAny _ _ (aG (.ref i1) >>=_) _ _ _
  refine aa (gA h1₀ ht1₀ hx fun h₂ h1₂ hs₂=>ag (ag ?_))
  refine aa (aa (bq ?_))
  show wpAny _ _ (aG (.ref i2) >>=_) _ _ _
  refine aa (gA (eb h2₀ hs₂ D.i12.symm) (et ht2₀ hs₂ D2.2.2.1) hy fun h₄ h2₄ hs₄=>ag (ag (ag ?_)))
  dsimp only
  refine aa (ku (ag ⟨_,rfl, ?_⟩) (by show 2<=sizeLine; decide))
  have hsz:h₄.objs.size=s.heap.objs.size:=by rw [hs₄.1,hs₂.1,hsz₀]
  show Q (.ref h₄.objs.size) {s with heap:=h₄.push {cls:= .type "tuple",data:= .seq #[x,y]}}
  have hT:eW (h₄.push {cls:= .type "tuple",data:= .seq #[x,y]}) h₄.objs.size x y:=ar _ rfl
  have up: ∀c,c≠z->c≠i1->c≠i2-> ∀o,s.heap.get? c=some o->(h₄.push {cls:= .type "tuple",data:= .seq #[x,y]}).get? c=some o:=fun c c1 c2 c3 o e=>af _ ((hs₄.2 c c3).trans ((hs₂.2 c c2).trans ((hs₀.2 c c1).trans e)))
  have hz₄:h₄.get? z=h₀.get? z:=by rw [hs₄.2 z D.i2z.symm,hs₂.2 z D.i1z.symm]
  rw [hz₀]at hz₄
  rw [hsz]at hT ⊢
  refine hQ _ ⟨⟨_,_,af _ hz₄,hf0⟩,up _ D.TIz D.TIi1 D.TIi2 _ hTI,a,b,up _ D.TOz D.TOi1 D.TOi2 _ hTO⟩ ?_ ?_ hT fun c o c1 _ c3 c4 e=>up c c1 c3 c4 o e
  ·obtain⟨o,e,r⟩:=eb h1₂ hs₄ D.i12; exact⟨o,af _ e,r⟩
  ·obtain⟨o,e,r⟩:=h2₄; exact⟨o,af _ e,r⟩
theorem EE{z TI TO i1 i2 t1 t2:Addr}{k:Nat}{xs ys:Array Value}{Q:Fin->ai->Prop}(hh:A.handled=none)(D:BS z TI TO i1 i2)(D1:t1≠z/\t1≠TO/\t1≠i1/\t1≠i2)(D2:t2≠z/\t2≠TO/\t2≠i1/\t2≠i2)(hZ:iu s.heap z TI TO i1 i2)
  (h1:s.heap.IsTupleIter i1 t1 k)(h2:s.heap.IsTupleIter i2 t2 k)(ht1:s.heap.IsTuple t1 xs)(ht2:s.heap.IsTuple t2 ys)(hend:xs[k]? =none\/ys[k]? =none)
  (hE: ∀h' e,(∀c o,c≠z->c≠TO->c≠i1->c≠i2->s.heap.get? c=some o->h'.get? c=some o)->(∃o,h'.get? e=some o/\o.cls= .type "StopIteration")->E (.ref e) {s with heap:=h'}):
  wpAny (model prog w) A (cP.«zip.__next__» ⟨[.ref z], []⟩) Q E s:=by
 obtain⟨⟨f0,f1,hz,hf0⟩,hTI,a,b,hTO⟩:=hZ
 have eb: ∀{h h':Heap} {c t:Addr} {j:Nat} {d:Addr},h.IsTupleIter c t j->aW d h h'->c≠d->h'.IsTupleIter c t j:=fun{h h' c t j d} ⟨o,e,r⟩ sb n=>⟨o,(sb.2 c n).trans e,r⟩
 have et: ∀{h h':Heap} {t:Addr} {is:Array Value} {d:Addr},h.IsTuple t is->aW d h h'->t≠d->h'.IsTuple t is:=fun{h h' t is d} ⟨o,e,r⟩ sb n=>⟨o,(sb.2 t n).trans e,r⟩
 have free:wpAny (model prog w) A (ba (.ref z)) (fun fr s1=> ∃h' f1',s1={s with heap:=h'}/\aW z s.heap h'/\h'.get? z=some {cls:= .type "zip",dict:=none,data:= .fields #[f0, .bool f1', .bool false, .ref TI, .ref TO],slots:= #[]}) E s:=by
  unfold ba
  have es:s={s with heap:=s.heap}:=by cases s; rfl
  rcases hf0 with rfl | ⟨T,rfl⟩
  ·exact aa (aU hz rfl (x:= .none) rfl (ag ⟨s.heap,f1,es,bN _ _,hz⟩))
  ·refine aa (aU hz rfl (x:=dI T) rfl ?_)
   show wpAny _ _ (do
    if(<-oj (T:Int).toNat).isNone then return true
    if(<-field (.ref z) 1) != .bool true then fw (.ref z) 1 (.bool true)
    return false) _ _ _
   refine aa (lg fun r=> ?_)
   cases r with
   | none=>
    simp only [pW,if_true]
    exact ag ⟨s.heap,f1,es,bN _ _,hz⟩
   | some ob=>
    simp only [pX,aS,if_false]
    refine aa (aU hz rfl (x:= .bool f1) rfl ?_)
    refine cG (fun _=> ?_) fun _=>ag ⟨s.heap,f1,es,bN _ _,hz⟩
    exact aa (a9 hz (by simp) fun h₁ hz₁ hs₁=>ag ⟨h₁,true,rfl,hs₁,hz₁⟩)
 show wpAny _ _ (field (.ref z) 2 >>=_) _ _ _
 refine aa (aU hz rfl (x:= .bool false) rfl ?_)
 show wpAny _ _ (field (.ref z) 3 >>=_) _ _ _
 refine aa (aU hz rfl (x:= .ref TI) rfl ?_)
 refine aa (bR hTI rfl ?_)
 show wpAny _ _ (ba (.ref z) >>=_) _ _ _
 refine aa (cF free (fun fr s1 hfr=> ?_) fun _ _ x=>x)
 obtain⟨h₀,f1',rfl,hs₀,hz₀⟩:=hfr
 have hTO₀:eW h₀ TO a b:=(hs₀.2 _ D.TOz).trans hTO
 have h1₀:=eb h1 hs₀ D.i1z
 have h2₀:=eb h2 hs₀ D.i2z
 have ht1₀:=et ht1 hs₀ D1.1
 have ht2₀:=et ht2 hs₀ D2.1
 cases fr with
 | true=>
  simp only [if_true]
  refine aa (c7 ?_)
  refine aa (aU hz₀ rfl (x:= .ref TO) rfl ?_)
  refine aa (a9 hz₀ (by simp) fun h₁ hz₁ hs₁=> ?_)
  refine aa ?_
  simp only [lS,ug,cj,dq]
  refine aa (aa (h_ ?_))
  show wpAny _ _ (aG (.ref i1) >>=_) _ _ _
  cases hx:xs[k]? with
  | none=>
   refine aa (fB hh (eb h1₀ hs₁ D.i1z) (et ht1₀ hs₁ D1.1) hx fun h₂ e hs₂ he=> ?_)
   obtain⟨oe,hoe,hce⟩:=he
   have hz₂:=hs₂ _ _ D.i1z.symm hz₁
   have hez:e≠z:=fun x=>by subst x; rw [hz₂]at hoe; cases hoe; simp at hce
   refine a9 hz₂ (by simp) fun h₃ _ hs₃=>hE h₃ e (fun c o c1 _ c3 _ x=>(hs₃.2 c c1).trans (hs₂ _ _ c3 ((hs₁.2 c c1).trans ((hs₀.2 c c1).trans x)))) ⟨oe,(hs₃.2 _ hez).trans hoe,hce⟩
  | some x=>
   have hy:ys[k]? =none:=by rcases hend with h | h; rw [hx]at h; cases h; exact h
   refine aa (gA (eb h1₀ hs₁ D.i1z) (et ht1₀ hs₁ D1.1) hx fun h₂ h1₂ hs₂=>ag ?_)
   have hTO₂:eW h₂ TO a b:=(hs₂.2 _ D.TOi1).trans ((hs₁.2 _ D.TOz).trans hTO₀)
   refine aa (bR hTO₂ rfl ?_)
   refine aa (gR hTO₂ fun h₃ hTO₃ hs₃=> ?_)
   refine aa (k8 (ag ?_))
   refine aa (aa (h_ ?_))
   show wpAny _ _ (aG (.ref i2) >>=_) _ _ _
   refine aa (fB hh (eb (eb (eb h2₀ hs₁ D.i2z) hs₂ D.i12.symm) hs₃ D.TOi2.symm) (et (et (et ht2₀ hs₁ D2.1) hs₂ D2.2.2.1) hs₃ D2.2.1) hy fun h₄ e hs₄ he=> ?_)
   obtain⟨oe,hoe,hce⟩:=he
   have hz₃:h₃.get? z=h₁.get? z:=by rw [hs₃.2 z D.TOz.symm,hs₂.2 z D.i1z.symm]
   rw [hz₁]at hz₃
   have hz₄:=hs₄ _ _ D.i2z.symm hz₃
   have hez:e≠z:=fun x=>by subst x; rw [hz₄]at hoe; cases hoe; simp at hce
   refine a9 hz₄ (by simp) fun h₅ _ hs₅=>hE h₅ e (fun c o c1 c2 c3 c4 x=>(hs₅.2 c c1).trans (hs₄ _ _ c4 ((hs₃.2 c c2).trans ((hs₂.2 c c3).trans ((hs₁.2 c c1).trans ((hs₀.2 c c1).trans x)))))) ⟨oe,(hs₅.2 _ hez).trans hoe,hce⟩
 | false=>
  simp only [aS,if_false]
  rw [<-dM]
  refine aa ?_
  show wpAny _ _ (forIn [aq i1,aq i2] _ _) _ _ _
  simp only [cj,dq]
  refine aa (aa (bq ?_))
  show wpAny _ _ (aG (.ref i1) >>=_) _ _ _
  cases hx:xs[k]? with
  | none=>exact aa (fB hh h1₀ ht1₀ hx fun h₂ e hs₂ he=>hE h₂ e (fun c o c1 _ c3 _ x=>hs₂ _ _ c3 ((hs₀.2 c c1).trans x)) he)
  | some x=>
   have hy:ys[k]? =none:=by rcases hend with h | h; rw [hx]at h; cases h; exact h
   refine aa (gA h1₀ ht1₀ hx fun h₂ h1₂ hs₂=>ag (ag ?_))
   refine aa (aa (bq ?_))
   show wpAny _ _ (aG (.ref i2) >>=_) _ _ _
   exact aa (fB hh (eb h2₀ hs₂ D.i12.symm) (et ht2₀ hs₂ D2.2.2.1) hy fun h₄ e hs₄ he=>hE h₄ e (fun c o c1 _ c3 c4 x=>hs₄ _ _ c4 ((hs₂.2 c c3).trans ((hs₀.2 c c1).trans x))) he)
abbrev Lc(h:Heap)(t1:Addr):Heap:=h.push {cls:= .type "tuple_iterator",data:= .fields #[.ref t1, .int 0 0]}
abbrev Lm(h:Heap)(t1 t2:Addr):Heap:=(Lc h t1).push {cls:= .type "tuple_iterator",data:= .fields #[.ref t2, .int 0 0]}
abbrev Lg(h:Heap)(t1 t2:Addr):Heap:=(Lm h t1 t2).push {cls:= .type "tuple",data:= .seq #[.ref h.objs.size, .ref (Lc h t1).objs.size]}
abbrev Lp(h:Heap)(t1 t2:Addr):Heap:=(Lg h t1 t2).push {cls:= .type "tuple",data:= .seq #[.none, .none]}
abbrev J5(h:Heap)(t1 t2:Addr):Heap:=(Lp h t1 t2).push {cls:= .type "zip",data:= .fields #[.none, .bool false, .bool false, .ref (Lm h t1 t2).objs.size, .ref (Lg h t1 t2).objs.size]}
theorem zH(t1 t2:Addr)(xs ys:Array Value):
  Meets (cP.«zip.__new__» ⟨[.type "zip", .ref t1, .ref t2], []⟩) (fun _ R s=>s.heap.IsTuple t1 xs/\s.heap.IsTuple t2 ys/\R (.ok (.ret (.ref (Lp s.heap t1 t2).objs.size))) {s with heap:=J5 s.heap t1 t2}):=
 .of_wp fun prog w A R s h=>by
  obtain⟨hp,g,d,tk,os⟩:=s; obtain⟨hl1,hl2,h⟩:=h
  have hsub:=sub_zip
  have hL1:Heap.IsTuple (tu ⟨hp,g,d,tk,os⟩) t1 xs:=hl1
  have hL2:Heap.IsTuple (tu ⟨hp.push {cls:= .type "tuple_iterator",data:= .fields #[.ref t1, .int 0 0]},g,d,tk,os⟩) t2 ys:=by
   obtain⟨o,e,r⟩:=hl2; exact⟨o,af _ e,r⟩
  wp_walk using pP hL1,pP hL2
  exact⟨_,rfl,h⟩
theorem CG{t1 t2:Addr}{xs ys:Array Value}{Q:Value->ai->Prop}(hl1:s.heap.IsTuple t1 xs)(hl2:s.heap.IsTuple t2 ys)
  (h: ∀h',iu h' (s.heap.objs.size+4) (s.heap.objs.size+2) (s.heap.objs.size+3) s.heap.objs.size (s.heap.objs.size+1)->h'.IsTupleIter s.heap.objs.size t1 0->h'.IsTupleIter (s.heap.objs.size+1) t2 0->
   (∀c o,s.heap.get? c=some o->h'.get? c=some o)->Q (.ref (s.heap.objs.size+4)) {s with heap:=h'}):
  wpAny (model prog w) A (call (.type "zip") [.ref t1, .ref t2]) Q E s:=by
 refine callType_new PySem.F.called_zip (by decide) (PySem.F.typeCall_zip_2 _ _) (PySem.F.newCall_zip_2 _ _) (fun obj=>PySem.F.args_object_init_3 obj _ _) PySem.F.entry_zip_new (zH t1 t2 xs ys) ⟨hl1,hl2, ?_⟩
 have z1:(Lc s.heap t1).objs.size=s.heap.objs.size+1:=bX ..
 have z2:(Lm s.heap t1 t2).objs.size=s.heap.objs.size+2:=by rw [bX,z1]
 have z3:(Lg s.heap t1 t2).objs.size=s.heap.objs.size+3:=by rw [bX,z2]
 have z4:(Lp s.heap t1 t2).objs.size=s.heap.objs.size+4:=by rw [bX,z3]
 have g5:(J5 s.heap t1 t2).get? (Lp s.heap t1 t2).objs.size=some _:=ar _ rfl
 have g4:(J5 s.heap t1 t2).get? (Lg s.heap t1 t2).objs.size=some _:=af _ (ar _ rfl)
 have g3:(J5 s.heap t1 t2).get? (Lm s.heap t1 t2).objs.size=some _:=af _ (af _ (ar _ rfl))
 have g2:(J5 s.heap t1 t2).get? (Lc s.heap t1).objs.size=some _:=af _ (af _ (af _ (ar _ rfl)))
 have g1:(J5 s.heap t1 t2).get? s.heap.objs.size=some _:=af _ (af _ (af _ (af _ (ar _ rfl))))
 show _/\_
 rw [z2,z3,z4]at g5
 rw [z1,z2]at g3
 rw [z3]at g4
 rw [z1]at g2
 rw [z4]
 exact⟨⟨_,g5,rfl⟩,h _ ⟨⟨_,_,g5, .inl rfl⟩,g3,_,_,g4⟩ ⟨_,g1,rfl,rfl⟩ ⟨_,g2,rfl,rfl⟩ fun c o x=>af _ (af _ (af _ (af _ (af _ x))))⟩
end
end Z
namespace Z
open PySem PySem.Spec PyProof.Rows L2
section
variable {X:Cx}{pins:List (Addr×Obj)}{σ:St}{H H':Hp}{s:ai}{h':Heap}{fp:List Addr}
theorem lW{t':Nat}(I:Inv X pins σ H s)(hf: ∀b∈fp,g_ X pins H b)(k: ∀b u,b∉fp->s.heap.get? b=some u->h'.get? b=some u)(hs:bP H H')(hn: ∀b o,s.heap.get? b=some o->H b=none->H' b=none)
  (dW:oq X.prog X.w H' h'):Inv X pins σ H' {s with heap:=h',toks:=t'}:=by
 refine I.step (g':=s.gens) (d':=s.drawn) (ch:=fp) (fun b hb=> ?_) (fun b o _ _ hc e _=>k b o hc e) (fun b o _ _ hc e _=>⟨o.slots,k b o hc e⟩) (fun b o _ e n=>hn b o e n)
  (fun b o hc e=>⟨o,k b o hc e⟩) (fun b xs e=>hs b _ e) (fun b o u e=>hs b _ e) (fun b ps e=>⟨#[],by rw [hs b _ e]; simp⟩) (fun m hm=> ?_) dW I.bare
 ·obtain⟨f0,f1,f2,f3,f4,f5⟩:=hf b hb
  exact⟨f3,f1,f4,f5⟩
 ·obtain⟨o,es,ep,ho,r⟩:=hm
  exact⟨o,es,ep,k _ o (fun z=>(hf _ z).2.1 rfl) ho,r⟩
theorem rH(I:Inv X pins σ H s)(hf: ∀b∈fp,g_ X pins H b)(k: ∀b u,b∉fp->s.heap.get? b=some u->h'.get? b=some u):oq X.prog X.w H h':=fun b u e=>by
 have nf: ∀c v,H c=some v->c∉fp:=fun c v e z=>by rw [(hf c z).1]at e; cases e
 refine(I.dW b u e).stay (fun c v hc q=>k c v ?_ q) (fun _ q=>q) fun _ _ q=>q
 rcases hc with z | z
 ·rw [z]; exact nf b u e
 ·exact nf c _ z
theorem yu{T:Addr}{o:HO}(I:Inv X pins σ H s)(hf: ∀b∈fp,g_ X pins H b)(k: ∀b u,b∉fp->s.heap.get? b=some u->h'.get? b=some u)(hT:H T=none)(new:fI X.prog X.w (upd H T o) h' T o):oq X.prog X.w (upd H T o) h':=fun b u e=>by
 by_cases hb:b=T
 ·subst hb
  rw [bG]at e; cases e
  exact new
 ·rw [cu hb]at e
  have nf: ∀c v,H c=some v->c∉fp:=fun c v e z=>by rw [(hf c z).1]at e; cases e
  refine(I.dW b u e).stay (fun c v hc q=>k c v ?_ q) (fun c q=>bw hT c _ q) fun c _ q=>bw hT c _ q
  rcases hc with z | z
  ·rw [z]; exact nf b u e
  ·exact nf c _ z
theorem pJ{a b:Addr}{xs:List V}(I:Inv X pins σ H s)(hf:g_ X pins H b)(h:i5 X.K H a xs):a≠b:=fun e=>by
 subst e
 rcases h with(h | ⟨o,h⟩) | ⟨o,its,n,hk,_⟩
 ·rw [hf.1]at h; cases h
 ·rw [hf.1]at h; cases h
 ·have hb:=I.ok.mod.Cj a o hk
  rcases hf.2.2.2.1 with z | z
  ·exact I.ok.tM a o hb z
  ·exact absurd (aZ (au hb) (bj I.ok.zl z)) (df _)
end
def MQ(K:Frag)(t1 t2:Addr):It:=
  ⟨fun i H=> ∃xs ys x y,i5 K H t1 xs/\i5 K H t2 ys/\xs[i]? =some x/\ys[i]? =some y,
   fun i H v H'=> ∃T x y,v= .ref T/\H T=none/\H'=upd H T (.tup [x,y])/\(∀xs,i5 K H t1 xs->xs[i]? =some x)/\ ∀ys,i5 K H t2 ys->ys[i]? =some y,
   fun i H=> ∃xs ys,i5 K H t1 xs/\i5 K H t2 ys/\(xs.length<=i\/ys.length<=i)⟩
section
variable {prog:av}{w:World}{A:bC}{E:Value->ai->Prop}{s:ai}
theorem yF{z TI TO i1 i2 t1 t2:Addr}{k:Nat}{xs ys:Array Value}{x y:Value}{Q:Option Value->ai->Prop}(D:BS z TI TO i1 i2)(D1:t1≠z/\t1≠TO/\t1≠i1/\t1≠i2)(D2:t2≠z/\t2≠TO/\t2≠i1/\t2≠i2)(hZ:iu s.heap z TI TO i1 i2)
  (h1:s.heap.IsTupleIter i1 t1 k)(h2:s.heap.IsTupleIter i2 t2 k)(ht1:s.heap.IsTuple t1 xs)(ht2:s.heap.IsTuple t2 ys)(hx:xs[k]? =some x)(hy:ys[k]? =some y)
  (hQ: ∀h',iu h' z TI TO i1 i2->h'.IsTupleIter i1 t1 (k+1)->h'.IsTupleIter i2 t2 (k+1)->eW h' s.heap.objs.size x y->
   (∀c o,c≠z->c≠TO->c≠i1->c≠i2->s.heap.get? c=some o->h'.get? c=some o)->Q (some (.ref s.heap.objs.size)) {s with heap:=h'}):wpAny (model prog w) A (gF (.ref z)) Q E s:=by
 obtain⟨⟨f0,f1,hz,_⟩,_⟩:=id hZ
 have hT:s.TypeIs (.ref z) "zip":=⟨_,hz,rfl⟩
 unfold gF
 exact aa (hV (bM (name:=dP "__next__") hT fg
  (bh fg hT sW (BR D D1 D2 hZ h1 h2 ht1 ht2 hx hy fun h' a1 a2 a3 a4 a5=>ag (hQ h' a1 a2 a3 a4 a5)) (qv _))))
theorem qf{z TI TO i1 i2 t1 t2:Addr}{k:Nat}{xs ys:Array Value}{Q:Option Value->ai->Prop}(hh:A.handled=none)(D:BS z TI TO i1 i2)(D1:t1≠z/\t1≠TO/\t1≠i1/\t1≠i2)(D2:t2≠z/\t2≠TO/\t2≠i1/\t2≠i2)(hZ:iu s.heap z TI TO i1 i2)
  (h1:s.heap.IsTupleIter i1 t1 k)(h2:s.heap.IsTupleIter i2 t2 k)(ht1:s.heap.IsTuple t1 xs)(ht2:s.heap.IsTuple t2 ys)(hend:xs[k]? =none\/ys[k]? =none)
  (hQ: ∀h',(∀c o,c≠z->c≠TO->c≠i1->c≠i2->s.heap.get? c=some o->h'.get? c=some o)->Q none {s with heap:=h'}):wpAny (model prog w) A (gF (.ref z)) Q E s:=by
 obtain⟨⟨f0,f1,hz,_⟩,_⟩:=id hZ
 have hT:s.TypeIs (.ref z) "zip":=⟨_,hz,rfl⟩
 unfold gF
 refine aa (hV (bM (name:=dP "__next__") hT fg
  (bh fg hT sW (EE hh D D1 D2 hZ h1 h2 ht1 ht2 hend fun h' e hk he=> ?_) (qv _))))
 obtain⟨o,ho,hc⟩:=he
 refine aa (dO (T:="StopIteration") (b:=true) ⟨o,ho,hc⟩ oi ?_)
 exact ag (hQ _ hk)
theorem j7{z TI TO i1 i2:Addr}{Q:Value->ai->Prop}(hZ:iu s.heap z TI TO i1 i2)(h:Q (.ref z) s):wpAny (model prog w) A (sT (.ref z)) Q E s:=by
 obtain⟨⟨f0,f1,hz,_⟩,_⟩:=id hZ
 have hT:s.TypeIs (.ref z) "zip":=⟨_,hz,rfl⟩
 refine iW hT F.slot_zip_iter (bh F.slot_zip_iter hT F.entry_zip_iter ?_ (F.args_zip_iter_1 _))
 show wpAny _ _ (ret (.ref z)) _ _ s
 exact ag ⟨_,rfl,"zip",_,hT,fg.lookup,h⟩
end
theorem EL{P:av}{w:World}{K:Frag}{x:Str}{px:Pos}{z TI TO i1 i2 t1 t2:Addr}(D:BS z TI TO i1 i2):
  Turn P w K (.Name x px) (MQ K t1 t2) [z,TI,TO,i1,i2] z (fun i h=>iu h z TI TO i1 i2/\h.IsTupleIter i1 t1 i/\h.IsTupleIter i2 t2 i) where
 mem:=by simp
 obj:=fun i h ⟨⟨⟨f0,f1,hz,_⟩,hTI,a,b,hTO⟩,h1,h2⟩ c hc=>by
  have hc':c=z\/c=TI\/c=TO\/c=i1\/c=i2:=by simpa using hc
  rcases hc' with rfl | rfl | rfl | rfl | rfl
  ·exact⟨_,hz,fun v e=>by cases e⟩
  ·exact⟨_,hTI,fun v e=>by cases e⟩
  ·exact⟨_,hTO,fun v e=>by cases e⟩
  ·obtain⟨o,e,c,d⟩:=h1; exact⟨o,e,fun v z=>by rw [d]at z; cases z⟩
  ·obtain⟨o,e,c,d⟩:=h2; exact⟨o,e,fun v z=>by rw [d]at z; cases z⟩
 keep:=fun i h h' ⟨⟨⟨f0,f1,hz,q⟩,hTI,a,b,hTO⟩,h1,h2⟩ k=>
  ⟨⟨⟨f0,f1,k z (by simp) _ hz,q⟩,k TI (by simp) _ hTI,a,b,k TO (by simp) _ hTO⟩,h1.at fun o e=>k i1 (by simp) o e,h2.at fun o e=>k i2 (by simp) o e⟩
 item:=by
  intro X hP hw hK hc i pins s σ H E I hf ⟨hZ,h1,h2⟩ hg
  subst hP hw hK
  obtain⟨xs,ys,x0,y0,hq1,hq2,hx,hy⟩:=hg
  obtain⟨its1,rv1,p1,hz1⟩:=I.tuple hq1
  obtain⟨its2,rv2,p2,hz2⟩:=I.tuple hq2
  obtain⟨u,hu,ru⟩:=rv1.get hx
  obtain⟨v,hv,rv⟩:=rv2.get hy
  have n1: ∀b∈ [z,TI,TO,i1,i2],t1≠b:=fun b hb=>pJ I (hf b hb) hq1
  have n2: ∀b∈ [z,TI,TO,i1,i2],t2≠b:=fun b hb=>pJ I (hf b hb) hq2
  refine yF D ⟨n1 _ (by simp),n1 _ (by simp),n1 _ (by simp),n1 _ (by simp)⟩ ⟨n2 _ (by simp),n2 _ (by simp),n2 _ (by simp),n2 _ (by simp)⟩ hZ h1 h2 (show s.heap.IsTuple t1 its1.toArray from p1) (show s.heap.IsTuple t2 its2.toArray from p2) (x:=u) (y:=v) (by simpa using hu) (by simpa using hv) fun h' a1 a2 a3 a4 k=> ?_
  have kk: ∀b o,b∉ [z,TI,TO,i1,i2]->s.heap.get? b=some o->h'.get? b=some o:=fun b o hb e=>k b o (fun q=>hb (by simp [q])) (fun q=>hb (by simp [q])) (fun q=>hb (by simp [q])) (fun q=>hb (by simp [q])) e
  have I1:Inv X pins σ (upd H s.heap.objs.size (.tup [x0,y0])) {s with heap:=h'}:=lW (t':=s.toks) I hf kk (bw I.fresh) (fun b o e n=>by rw [cu (aF (au e))]; exact n)
   (yu I hf kk I.fresh ⟨by show 2<=sizeLine; decide, [u,v], .cons ru (.cons rv .nil),⟨_,a4,rfl,_,rfl⟩⟩)
  refine⟨_,rfl,ag ⟨.ref s.heap.objs.size,_,I1,rfl,⟨s.heap.objs.size,x0,y0,rfl,I.fresh,rfl,fun zs hq=>by rw [I.tuple_inj hq hq1]; exact hx,fun zs hq=>by rw [I.tuple_inj hq hq2]; exact hy⟩,⟨a1,a2,a3⟩,fun b hb=> ?_⟩⟩
  have hbl:b < s.heap.objs.size:=by
   have hb':b=z\/b=TI\/b=TO\/b=i1\/b=i2:=by simpa using hb
   obtain⟨⟨f0,f1,hz,_⟩,hTI,a,b,hTO⟩:=hZ
   obtain⟨o1,e1,_⟩:=h1
   obtain⟨o2,e2,_⟩:=h2
   rcases hb' with rfl | rfl | rfl | rfl | rfl
   ·exact au hz
   ·exact au hTI
   ·exact au hTO
   ·exact au e1
   ·exact au e2
  rw [cu (aF hbl)]
  exact(hf b hb).1
 done:=by
  intro X hP hw hK hc i pins s σ H E I hf ⟨hZ,h1,h2⟩ hg
  subst hP hw hK
  obtain⟨xs,ys,hq1,hq2,hx⟩:=hg
  obtain⟨its1,rv1,p1,hz1⟩:=I.tuple hq1
  obtain⟨its2,rv2,p2,hz2⟩:=I.tuple hq2
  have n1: ∀b∈ [z,TI,TO,i1,i2],t1≠b:=fun b hb=>pJ I (hf b hb) hq1
  have n2: ∀b∈ [z,TI,TO,i1,i2],t2≠b:=fun b hb=>pJ I (hf b hb) hq2
  have l1:=rv1.length
  have l2:=rv2.length
  refine qf (I.ok.hd hc) D ⟨n1 _ (by simp),n1 _ (by simp),n1 _ (by simp),n1 _ (by simp)⟩ ⟨n2 _ (by simp),n2 _ (by simp),n2 _ (by simp),n2 _ (by simp)⟩ hZ h1 h2 (show s.heap.IsTuple t1 its1.toArray from p1) (show s.heap.IsTuple t2 its2.toArray from p2) ?_ fun h' k=> ?_
  ·rcases hx with hx | hx
   ·exact .inl (by simp; omega)
   ·exact .inr (by simp; omega)
  have kk: ∀b o,b∉ [z,TI,TO,i1,i2]->s.heap.get? b=some o->h'.get? b=some o:=fun b o hb e=>k b o (fun q=>hb (by simp [q])) (fun q=>hb (by simp [q])) (fun q=>hb (by simp [q])) (fun q=>hb (by simp [q])) e
  exact⟨rfl,lW (t':=s.toks) I hf kk (bP.refl _) (fun b o e n=>n) (rH I hf kk)⟩
 self:=fun _ _ _ _ _ st h=>j7 st.1 h
def LH(K:Frag)(ta:TA):TI:=fun σ H R=>ta σ H fun vs H1=> ∃t1 t2,vs= [.ref t1, .ref t2]/\(∃xs,i5 K H1 t1 xs)/\(∃ys,i5 K H1 t2 ys)/\R (MQ K t1 t2) H1
section
variable {X:Cx}{ρ:eZ}{e a b:Expr}{d:D}{ds es:List D}{p pos px:Pos}{x:Str}
theorem uu:di "zip"=some (.type "zip"):=by decide +kernel
theorem Ja{ta:TA}(hg:Gl X "zip")(hm:X.mg "zip"=none)(ha:PA X [a,b] ta)(hs:ax [a,b] X.env= [(false,eval a X.env),(false,eval b X.env)]:=by rfl)(hs2:ax [b] X.env= [(false,eval b X.env)]:=by rfl):
  PI X (.Name x px) (.Call (.Name "zip" p) [a,b] [] pos) (LH X.K ta):=by
 intro pins s σ H R I h
 refine Call_ (nF I hg hm uu (gG (eQ (ha pos pins s σ H _ I h) fun us s1 ⟨vs,H1,I1,r1,q1⟩=> ?_) (by rw [hs,hs2]) (by rw [hs2]; rfl)))
 obtain⟨t1,t2,e,⟨xs,hq1⟩,⟨ys,hq2⟩,q⟩:=q1
 subst e
 cases r1 with
 | cons r rr=>
  cases rr with
  | cons r' rr=>
   cases rr
   cases r
   cases r'
   obtain⟨its1,rv1,p1,hz1⟩:=I1.tuple hq1
   obtain⟨its2,rv2,p2,hz2⟩:=I1.tuple hq2
   refine CG (show s1.heap.IsTuple t1 its1.toArray from p1) (show s1.heap.IsTuple t2 its2.toArray from p2) fun h' a1 a2 a3 k=> ?_
   refine j7 (s:={s1 with heap:=h'}) a1 ?_
   have D:BS (s1.heap.objs.size+4) (s1.heap.objs.size+2) (s1.heap.objs.size+3) s1.heap.objs.size (s1.heap.objs.size+1):=by
    constructor <;> first | exact aF (by show(_:Nat) < _; omega) | exact bH (by show(_:Nat) < _; omega)
   refine⟨_, [s1.heap.objs.size+4,s1.heap.objs.size+2,s1.heap.objs.size+3,s1.heap.objs.size,s1.heap.objs.size+1],_,_,H1,rfl,I1.kept (t':=s1.toks) k,EL D,⟨a1,a2,a3⟩,fun b hb=> ?_,q⟩
   have hb':b=s1.heap.objs.size+4\/b=s1.heap.objs.size+2\/b=s1.heap.objs.size+3\/b=s1.heap.objs.size\/b=s1.heap.objs.size+1:=by simpa using hb
   have hle:s1.heap.objs.size<=b:=by rcases hb' with rfl | rfl | rfl | rfl | rfl <;> (show(_:Nat)<=_; omega)
   exact I1.fpOk hle (I1.dW.fresh hle)
def pN(ds es:List D):List D:=(ds.zip es).map fun p=>D.tup [p.1,p.2]
theorem ja.zipT(hg:Gl X "zip")(hm:X.mg "zip"=none)(h1:az X ρ a (.tup ds))(h2:az X ρ b (.tup es))(hs:ax [a,b] X.env= [(false,eval a X.env),(false,eval b X.env)]:=by rfl)(hs2:ax [b] X.env= [(false,eval b X.env)]:=by rfl):
  ja X ρ (.Name x px) (.Call (.Name "zip" p) [a,b] [] pos) (pN ds es):=fun M0 H0 γ α σ H R r k=>(Ja hg hm vh hs hs2).to ((bp.cons h1 (bp.cons h2 bp.nil hs2) (by rw [hs,hs2])) M0 H0 γ α σ H _ r fun vs H1 s x=>by
 obtain⟨v1,r1,rfl,e1,v2,r2,rfl,e2,e3⟩:=x
 cases e3
 obtain⟨t1,xs,rfl,sq1,dn1⟩:=id e1
 obtain⟨t2,ys,rfl,sq2,dn2⟩:=id e2
 refine⟨t1,t2,rfl,⟨xs,sq1⟩,⟨ys,sq2⟩,k _ H1 [(.tup ds, .ref t1),(.tup es, .ref t2)] s (fun p hp=> ?_) fun M H2 hg=> ?_⟩
 ·have hp':p=(.tup ds, .ref t1)\/p=(.tup es, .ref t2):=by simpa using hp
  rcases hp' with rfl | rfl
  ·exact e1
  ·exact e2
 obtain⟨q1,xs',ee1,sq1',dn1'⟩:=hg _ (bO)
 obtain⟨q2,ys',ee2,sq2',dn2'⟩:=hg _ (bY _ (bO))
 cases ee1; cases ee2
 have L1:=dn1'.len
 have L2:=dn2'.len
 refine⟨fun i d hi=> ?_,⟨xs',ys',sq1',sq2', ?_⟩⟩
 ·unfold pN at hi
  rw [aj]at hi
  cases e:(ds.zip es)[i]? with
  | none=>rw [e]at hi; cases hi
  | some pq=>
   rw [e]at hi
   cases hi
   obtain⟨g1,g2⟩:=wR.mp e
   obtain⟨x,hx,dx⟩:=dn1'.get g1
   obtain⟨y,hy,dy⟩:=dn2'.get g2
   refine⟨⟨xs',ys',x,y,sq1',sq2',hx,hy⟩,fun v H' hv=> ?_⟩
   obtain⟨T,x',y',rfl,hT,rfl,f1,f2⟩:=hv
   have e1:=f1 xs' sq1'
   have e2:=f2 ys' sq2'
   rw [hx]at e1; cases e1
   rw [hy]at e2; cases e2
   exact⟨bw hT,T,_,rfl,i5.of bG,_,_,rfl,dx.same (bw hT),_,_,rfl,dy.same (bw hT),rfl⟩
 ·unfold pN
  rw [ae,bK]
  omega)
end
def lj:List Str->List D->Str->Option D
 | n::ns,d::ds,f=>if f==n then some d else lj ns ds f
 | _,_,_=>none
theorem Bp{K:Frag}{M:MP}{H:Hp}{f:Str}{d:D}: ∀{ns:List Str} {ds:List D} {fs:List (Str×V)},fs.map (·.1)=ns->cE K M H ds (fs.map (·.2))->lj ns ds f=some d-> ∃v,fs.lookup f=some v/\Dn K M H d v
 | [],_,_,_,_,h=>by simp [lj]at h
 | n::ns, [],_,_,_,h=>by simp [lj]at h
 | n::ns,d'::ds, [],e,_,_=>by cases e
 | n::ns,d'::ds,(k,x)::fs,e,⟨v,r,e2,h1,h2⟩,h=>by
  have ek:k=n:=by injection e
  have en:fs.map (·.1)=ns:=by injection e
  have ev:x=v:=by injection e2
  have er:fs.map (·.2)=r:=by injection e2
  subst ek ev er
  unfold lj at h
  rw [fX]
  cases hb:f==k with
  | true=>rw [hb]at h; cases h; exact⟨x,rfl,h1⟩
  | false=>rw [hb]at h; exact Bp en h2 h
theorem xC{f:Str}: ∀{ns:List Str} {fs:List (Str×V)},fs.map (·.1)=ns->ns.all (fun n=> !(f==n))=true->fs.lookup f=none
 | _, [],_,_=>rfl
 | ns,(k,x)::fs,e,h=>by
  subst e
  rw [aY,List.all_cons,bA]at h
  rw [fX]
  cases hb:f==k with
  | true=>rw [hb]at h; exact absurd h.1 (by decide)
  | false=>exact xC rfl h.2
structure J7(P:av)(w:World)(K:Frag)(mg:Str->Option Value)(base:Heap)(CX:gM)(k:Nat)(C:Addr)(m:Str){ι:Type}(args:ι->List D)(pre:ι->Prop)(res:ι->Except Addr D):Prop where
 ex: ∃(f:Addr) (fd:bg) (ps:List Str),lN P w K mg base CX k f fd ps (nA K args pre res)/\Meth K C m f/\Binds K fd ps []
section
variable {X:Cx}{ρ:eZ}{M0:MP}{H0:Hp}{o e:Expr}{es:List Expr}{d:D}{ds:List D}{ns:List Str}{C:Addr}{f m:Str}{pos p apos:Pos}{CX:gM}{k:Nat}{x:Str}{ι:Type}{args:ι->List D}{pre:ι->Prop}{res:ι->Except Addr D}
theorem az.fld(c:zq X.K C)(n:iL X.K C f)(h:az X ρ e (.ins C ns ds))(hf:lj ns ds f=some d)(hb:jk e f X.env (eval e X.env)=eval e X.env:=by rfl):az X ρ (.Attribute e f pos) d:=fun M0 H0 γ α σ H Q R kk=>
 (JO g8 hb).to (h M0 H0 γ α σ H _ R fun v H1 s x=>by
  obtain⟨a,dx,fs,rfl,hH,hn,dn⟩:=x
  obtain⟨v,l,dv⟩:=Bp hn dn hf
  exact⟨a,C,dx,fs,v,rfl,hH,c,n,l,kk v H1 s dv⟩)
theorem az.meth0{pl:Sem Bool}(c:zq X.K C)(F:J7 X.prog X.w X.K X.mg X.base CX k C m args pre res)(hr:fM k X.A)(hx:Passes CX X E0)(i:ι)(h:az X ρ o (.ins C ns ds))(hi:args i= [.ins C ns ds])(hp:pre i)(hres:res i= .ok d)(hn:ns.all (fun n=> !(m==n))=true:=by decide +kernel)
  (ht:eval (.Call (.Attribute o m apos) [] [] pos) X.env=(do
   let ov<-eval o X.env
   standAt apos.atName
   let(f,first)<-jW [ov] (getMethod ov m pl)
   callWith pos f first (e_ pos (ax [] X.env)) (backToKw pos (CV [] X.env))):=by rfl):az X ρ (.Call (.Attribute o m apos) [] [] pos) d:=fun M0 H0 γ α σ H Q R kk=>by
 obtain⟨f,fd,ps,F,hm,hb⟩:=F.ex
 refine(Dm g8 c hm F hr hb .nil hx ht).to (h M0 H0 γ α σ H _ R fun v H1 s1 dn=> ?_)
 obtain⟨a,dx,fs,rfl,hH,hns,dn'⟩:=id dn
 refine⟨a,dx,fs,rfl,hH,xC hns hn, ?_⟩
 refine⟨i,MM M0 ρ α,jE R s1,by rw [hi]; exact⟨_,_,rfl,dn,rfl⟩,hp,fun d' e v H2 s2 dn=>by rw [hres]at e; cases e; exact kk v H2 (s1.trans s2) dn,fun C e=>by rw [hres]at e; cases e⟩
end
section
variable {P:av}{w:World}{K:Frag}{mg:Str->Option Value}{base:Heap}{CX:gM}{k:Nat}{x qual:Str}{st:Stmt}{f C:Addr}{fd:bg}{N ps:List Str}{ι:Type}{args:ι->List D}{pre:ι->Prop}{res:ι->Except Addr D}
theorem vj(F:ji K x qual st f fd)(S:bQ N ps (aL st))(hm:Meth K C x f)(hb:Binds K fd ps [])(hl: ∀i,(args i).length=ps.length)
  (body: ∀(cdv:Value) (A:bC) (outer:List Env) (s:ai) (H:Hp) (E:XK) (i:ι) (M0:MP),pre i->fM k (A.deeper (lF qual (aL st) s.heap.objs.size f cdv))->
   ∃d,res i= .ok d/\WS (nc CX P w K mg base N qual (aL st) f cdv A outer s H E).nox M0 H (bt st) (qS N (args i)) {N:=fun _=>d= .non,R:=fun d'=>d'=d}):J7 P w K mg base CX (k+1) C x args pre res:=
 ⟨f,fd,ps,Be F S hl body,hm,hb⟩
end
def eu(H:Hp)(x:Addr):Hp:=fun b=>if b=x then none else H b
theorem oW{H:Hp}{x:Addr}:eu H x x=none:=if_pos rfl
theorem eX{H:Hp}{x:Addr}:bP (eu H x) H:=fun b o e=>by
 unfold eu at e
 split at e
 ·cases e
 ·exact e
def D.noI:Nat->D->Prop
 | _, .non=>True
 | _, .bl _=>True
 | _, .int _=>True
 | _, .str _=>True
 | n+1, .tup ds=> ∀d∈ds,D.noI n d
 | n+1, .lst ds=> ∀d∈ds,D.noI n d
 | _,_=>False
theorem vM{K:Frag}{M:MP}{H H':Hp}: ∀{ds:List D} {xs:List V},(∀d∈ds, ∀v,Dn K M H d v->Dn K M H' d v)->cE K M H ds xs->cE K M H' ds xs
 | [],_,_,r=>r
 | d::ds,_,h,⟨v,t,e,h1,h2⟩=>⟨v,t,e,h d (.head _) v h1,vM (fun x hx=>h x (.tail _ hx)) h2⟩
theorem Dn.noI{K:Frag}{M:MP}{H H':Hp}(kk: ∀b o,H b=some o->(∀C dx fs,o≠ .ins C dx fs)->H' b=some o): ∀(n:Nat) {d:D} {v:V},D.noI n d->Dn K M H d v->Dn K M H' d v:=by
 intro n
 induction n with
 | zero=>intro d v hf h; cases d <;> first | exact h | exact hf.elim
 | succ n ih=>
  intro d v hf h
  cases d with
  | tup ds=>
   obtain⟨a,xs,e,s,r⟩:=h
   refine⟨a,xs,e, ?_,vM (fun d hd v=>ih (hf d hd)) r⟩
   rcases s with(s | ⟨o,s⟩) | s
   ·exact .inl (.inl (kk _ _ s (by intros; intro z; cases z)))
   ·exact .inl (.inr ⟨o,kk _ _ s (by intros; intro z; cases z)⟩)
   ·exact .inr s
  | lst ds=>
   obtain⟨a,xs,e,s,r⟩:=h
   refine⟨a,xs,e, ?_,vM (fun d hd v=>ih (hf d hd)) r⟩
   rcases s with⟨s | ⟨o,s⟩,m⟩ | s
   ·exact .inl ⟨.inl (kk _ _ s (by intros; intro z; cases z)),m⟩
   ·exact .inl ⟨.inr ⟨o,kk _ _ s (by intros; intro z; cases z)⟩,m⟩
   ·exact .inr s
  | non=>exact h
  | bl _=>exact h
  | int _=>exact h
  | str _=>exact h
  | _=>exact hf.elim
theorem DV{H:Hp}{x C dx:Addr}{fs fs':List (Str×V)}(hx:H x=some (.ins C dx fs)): ∀b o,H b=some o->(∀C dx fs,o≠ .ins C dx fs)->upd H x (.ins C dx fs') b=some o:=fun b o e n=>by
 by_cases hb:b=x
 ·subst hb
  rw [hx]at e; cases e
  exact absurd rfl (n _ _ _)
 ·rw [cu hb]; exact e
theorem Rep.ins{K:Frag}{M0:MP}{H0 H:Hp}{α:Nat->Addr}{ρ:eZ}{σ:St}{x C dx:Addr}{fs fs':List (Str×V)}(r:Rep K M0 H0 [] α ρ σ H)(h0:H0 x=none)(hx:H x=some (.ins C dx fs))(hi: ∀s∈ρ,s= .un\/ ∃d,s= .im d/\D.noI 9 d):Rep K M0 H0 [] α ρ σ (upd H x (.ins C dx fs')):=by
 have nomu: ∀(i:Nat) (ds:List D),ρ[i]? =some (.mu ds)->False:=fun i ds e=>by
  rcases hi _ (aT e)with z | ⟨d,z,_⟩ <;> cases z
 refine⟨gU r.same h0,r.old,r.inj,fun i d e=> ?_,fun i ds e=>(nomu i ds e).elim,(fun p hp=>by cases hp),r.len⟩
 obtain⟨v,h1,h2⟩:=r.im i d e
 rcases hi _ (aT e)with z | ⟨d',z,n⟩
 ·cases z
 ·cases z
  exact⟨v,h1,Dn.noI (DV hx) 9 n h2⟩
section
variable {X:Cx}{ρ:eZ}{M0:MP}{H0 H:Hp}{γ:List (D×V)}{α:Nat->Addr}{σ:St}{En:Ends}{c e:Expr}{d:D}{s1:List Stmt}{pos pos' p:Pos}{x C dx:Addr}{f y:Str}{fs:List (Str×V)}
theorem vZ(h:c8 X ρ c false)(R:Rep X.K M0 H0 γ α ρ σ H)(k: ∀H',bP H H'->En.nx σ H'):tS X (.If c s1 [] pos) En σ H:=
 (Ay Fw gI gI).to (h M0 H0 γ α σ H _ R fun H1 s=>rD (qH.to (k H1 s)))
theorem zB(i:Nat)(hN:X.N[i]? =some y)(hv:wM X.env.scope y)(hσ:σ[i]? =some (some (.ref x)))(cl:zq X.K C)(n:iL X.K C f)(hl:fs.length < 1000)(h:az X ρ e d)(R:Rep X.K M0 H0 γ α ρ σ H)(hx:H x=some (.ins C dx fs))
  (k: ∀v H1,bP H H1->Dn X.K (MM M0 ρ α) H1 d v->En.nx σ (upd H1 x (.ins C dx (f7 f v fs))))(hs:cO e (some (.Attribute (.Name y p) f pos')) pos.line X.env=pure false:=by rfl)(hd:(y==("__debug__":Str))=false:=by decide)(hcd:(y==("__classdict__":Str))=false:=by decide):
  tS X (.Assign [.Attribute (.Name y p) f pos'] e pos) En σ H:=
 (ES (jF hN hv hd hcd) g8 hs).to (h M0 H0 γ α σ H _ R fun v H1 s dn=>⟨_,hσ,x,C,dx,fs,rfl,s _ _ hx,cl,n,hl,k v H1 s dn⟩)
theorem GF{W:D->Prop}(i:Nat)(hN:X.N[i]? =some y)(hv:wM X.env.scope y)(hσ:σ[i]? =some (some (.ref x)))(cl:zq X.K C)(n:iL X.K C f)(hl:fs.length < 1000)(h:DP X ρ e W)(R:Rep X.K M0 H0 γ α ρ σ H)(hx:H x=some (.ins C dx fs))
  (k: ∀d v H1,W d->bP H H1->Dn X.K (MM M0 ρ α) H1 d v->En.nx σ (upd H1 x (.ins C dx (f7 f v fs))))(hs:cO e (some (.Attribute (.Name y p) f pos')) pos.line X.env=pure false:=by rfl)(hd:(y==("__debug__":Str))=false:=by decide)(hcd:(y==("__classdict__":Str))=false:=by decide):
  tS X (.Assign [.Attribute (.Name y p) f pos'] e pos) En σ H:=
 (ES (jF hN hv hd hcd) g8 hs).to (h M0 H0 γ α σ H _ R fun d v H1 hd s dn=>⟨_,hσ,x,C,dx,fs,rfl,s _ _ hx,cl,n,hl,k d v H1 hd s dn⟩)
end
def Mc(K:Frag)(C:Addr)(ns:List Str){ι:Type}(args:ι->List D)(pre:ι->Prop)(res:ι->List D->Prop):Sp:=fun vs H Q E=>
 ∃(i:ι) (M0:MP) (x dx:Addr) (us:List V),vs= .ref x::us/\H x=some (.ins C dx [])/\(∀a,M0 a->eu H x a≠none)/\cE K M0 H (args i) us/\pre i/\
  ∀ds fs H',res i ds->bP (eu H x) H'->H' x=some (.ins C dx fs)->fs.map (·.1)=ns->cE K M0 H' ds (fs.map (·.2))->Q .non H'
structure L8(P:av)(w:World)(K:Frag)(mg:Str->Option Value)(base:Heap)(CX:gM)(k:Nat)(x:Str)(C:Addr)(ns:List Str){ι:Type}(args:ι->List D)(pre:ι->Prop)(res:ι->List D->Prop):Prop where
 ex: ∃(f:Addr) (fd:bg) (ps:List Str),lN P w K mg base CX k f fd ps (Mc K C ns args pre res)/\Mk K C f/\mg x=some (.ref C)/\Binds K fd ps []
section
variable {X:Cx}{ρ:eZ}{e:Expr}{es:List Expr}{C:Addr}{x:Str}{ns:List Str}{pos p:Pos}{CX:gM}{k:Nat}{ι:Type}{args:ι->List D}{pre:ι->Prop}{res:ι->List D->Prop}
theorem DP.make(F:L8 X.prog X.w X.K X.mg X.base CX k x C ns args pre res)(hr:fM (k+1) X.A)(hx:Passes CX X E0)(hg:Gl X x)(i:ι)(ha:bp X ρ (e::es) (args i))(hp:pre i)(hdb:(x==("__debug__":Str))=false:=by decide)
  (he:ax (e::es) X.env=(false,eval e X.env)::ax es X.env:=by rfl)(hpl:(e_ pos (ax es X.env)).any (·.1)=false:=by rfl):DP X ρ (.Call (.Name x p) (e::es) [] pos) (fun d=> ∃ds,d= .ins C ns ds/\res i ds):=fun M0 H0 γ α σ H Q R kk=>by
 obtain⟨f,fd,ps,F,M,hm,hb⟩:=F.ex
 refine(Hq M F hr hg hm hb .nil hx vh hdb he hpl).to (ha M0 H0 γ α σ H _ R fun vs H1 s1 d1=>fun y dy n1 n2 ne=> ?_)
 rw [bJ]
 have sm:bP H1 (upd (upd H1 dy (.own y)) y (.ins C dy [])):=fun b o e=>by rw [cu (fL e n1),cu (fL e n2)]; exact e
 have smh:bP H1 (eu (upd (upd H1 dy (.own y)) y (.ins C dy [])) y):=fun b o e=>by
  unfold eu
  rw [if_neg (fL e n1)]
  exact sm b o e
 refine⟨i,MM M0 ρ α,y,dy,vs,rfl,bG,fun a ha z=>jE R s1 a ha (smh.free z),d1.same sm,hp,fun ds fs H' hres s2 hy hns dn=>⟨rfl,kk (.ins C ns ds) (.ref y) H' ⟨ds,rfl,hres⟩ ((s1.trans smh).trans s2) ⟨y,dy,fs,rfl,hy,hns,dn⟩⟩⟩
end
def jb(env:Env)(x:Str×iP)(r:List (Str×Addr)):Sem (ForInStep (List (Str×Addr))):=do
 if x.2==yL then do
  let a<-cellOf env x.1
  pure (ik ((x.1,a)::r))
 else pure (ik r)
theorem mG{env:Env}: ∀(l rest:List (Str×iP)) (acc:List (Str×Addr)),(∀z∈l,z.2≠ .free)->forIn (l ++ rest) acc (jb env)=forIn rest acc (jb env)
 | [],_,_,_=>rfl
 | z::l,rest,acc,h=>by
  have hz:(z.2==yL)=false:=by simpa using h z (.head _)
  rw [lT,cj]
  have e:jb env z acc=pure (ik acc):=by unfold jb; rw [hz]; rfl
  rw [e]
  simp only [sX]
  exact mG l rest acc fun w hw=>h w (.tail _ hw)
theorem l0{scope:Scope}{env:Env}{y:Str}{c:Addr}{pre post:List (Str×iP)}(hs:scope.names=pre ++ (y, .free)::post)(h1: ∀z∈pre,z.2≠ .free)(h2: ∀z∈post,z.2≠ .free)(hc:env.cells.lookup y=some c):pT scope env=pure [(y,c)]:=by
 have all:forIn scope.names ([]:List (Str×Addr)) (jb env)=pure [(y,c)]:=by
  rw [hs,mG pre _ [] h1,cj]
  have e:cellOf env y=pure c:=by unfold cellOf; rw [hc]
  have e2:jb env (y, .free) []=pure (ik [(y,c)]):=by
   unfold jb
   simp only [beq_self_eq_true,if_true,e,sX]
  rw [e2]
  simp only [sX]
  have:=mG (env:=env) post [] [(y,c)] h2
  rw [bJ]at this
  rw [this]
  rfl
 have e2:=congrArg (fun m=>m >>=fun r=>(pure r:Sem (List (Str×Addr)))) all
 have e3:pT scope env=(forIn scope.names ([]:List (Str×Addr)) (jb env) >>=fun r=>pure r):=rfl
 rw [e3,all]
 rfl
theorem dE.cap1{X:Cx}{scope:Scope}{x y:Str}{c:Addr}{j:Nat}{pre post rn:List (Str×iP)}(hs:scope.names=pre ++ (y, .free)::post)(h1: ∀z∈pre,z.2≠ .free)(h2: ∀z∈post,z.2≠ .free)(hcl:X.env.cells.lookup y=some c)
  (hc: ∀z∈scope.names,z.2≠ .cell)(hk:scope.kind= .function)(hn: ∀y∈scope.names,y.2= .local->scope.names.lookup y.1=some .local)(ho:scope.names.lookup x=some .local)(hj:X.N[j]? =some y)(hy:X.env.scope.names.lookup y=some .cell)
  (hrel:(jl scope X.env).names=rn)(hrn:rn.lookup y=some .cell)(hall: ∀z∈rn,(z.2= .cell\/z.2= .free)->z.1=y):dE X [x,y] [j] scope x [(y,c)] where
 w8:=l0 hs h1 h2 hcl
 cell:=hc
 kind:=hk
 names:=hn
 own:=ho
 hN:=⟨[y],rfl,rfl,fun i z k e1 e2=>by
  cases i with
  | zero=>
   have e1':y=z:=by simpa using e1
   have e2':j=k:=by simpa using e2
   subst e1' e2'
   refine⟨hj,hy,by rw [hrel]; exact hrn,fun c' e=> ?_⟩
   rw [hcl]at e
   cases e
   simp
  | succ i=>simp at e1⟩
 sub:=fun z d h=>by
  rw [fX]at h
  cases hb:z==y with
  | true=>
   rw [hb]at h
   cases h
   rw [beq_iff_eq.mp hb]
   exact hcl
  | false=>rw [hb]at h; simp at h
 has:=fun z h=>by
  rw [hrel]at h
  have:z=y:=by
   rcases h with h | h
   ·exact hall _ (b9 h) (.inl rfl)
   ·exact hall _ (b9 h) (.inr rfl)
  subst this
  exact⟨c,by simp⟩
theorem si{ρ:eZ}{j:Nat}{c:D}(h:ρ[j]? =some (.im c)):xI ρ [j] [c]:=⟨rfl,fun k i d e1 e2=>by
 cases k with
 | zero=>
  have e1':j=i:=by simpa using e1
  have e2':c=d:=by simpa using e2
  subst e1' e2'
  exact h
 | succ k=>simp at e1⟩
section
variable {X:Cx}{ρ:eZ}{e a b:Expr}{d:D}{ds:List D}{pos p p2 p3 p4:Pos}
def K1(K:Frag):List V->Hp->VK->Prop:=fun xs H Q=> ∃v tp M d,xs= [v, .ref tp]/\H tp=some (.tup [.ty "list", .ty "tuple"])/\oC K M H d v/\nP d=true/\Q (.bl (tf "list" d || tf "tuple" d)) H
theorem BH:gz X (.builtin "isinstance") (K1 X.K):=by
 intro pins s σ H xs us Q I r ⟨v,tp,M,d,e,ht,h,hp,q⟩
 subst e
 obtain⟨u,c,rfl,r1,r2⟩:=vals2 r
 cases (show c=aq tp from r2)
 obtain⟨_,its,rv,o,ho,hc,n,hd⟩:=(show fI X.prog X.w H s.heap tp (.tup [.ty "list", .ty "tuple"])from I.dW tp _ ht)
 obtain⟨oc,od,dt,sl⟩:=o
 cases (show oc=_ from hc)
 cases (show dt=_ from hd)
 cases rv with
 | cons q1 rv=>
  cases rv with
  | cons q2 rv=>
   cases rv
   cases (show _=cz "list" from q1)
   cases (show _=cz "tuple" from q2)
   refine GU (its:= [.type "list", .type "tuple"]) (r:=tf "list" d || tf "tuple" d) I h r1 hp ho ?_ fun tk=>⟨.bl _,H,I.tok tk,rfl,q⟩
   cases d <;> first | rfl | (cases hp)
theorem az.isi2{x1:Nat}(hg:Gl X "isinstance")(hm:X.mg "isinstance"=none)(hg1:Gl X "list")(hm1:X.mg "list"=none)(hg2:Gl X "tuple")(hm2:X.mg "tuple"=none)(h:kT X ρ e d)(hp:nP d=true)
  (he:ax [e, .Tuple [.Name "list" p2, .Name "tuple" p3] x1 p4] X.env=(false,eval e X.env)::ax [.Tuple [.Name "list" p2, .Name "tuple" p3] x1 p4] X.env:=by rfl)(he2:ax [.Tuple [.Name "list" p2, .Name "tuple" p3] x1 p4] X.env= [(false,eval (.Tuple [.Name "list" p2, .Name "tuple" p3] x1 p4) X.env)]:=by rfl)
  (he3:ax [.Name "list" p2, .Name "tuple" p3] X.env= [(false,eval (.Name "list" p2) X.env),(false,eval (.Name "tuple" p3) X.env)]:=by rfl)(he4:ax [.Name "tuple" p3] X.env= [(false,eval (.Name "tuple" p3) X.env)]:=by rfl)
  (hpl:(e_ pos (ax [.Tuple [.Name "list" p2, .Name "tuple" p3] x1 p4] X.env)).any (·.1)=false:=by rfl):
  az X ρ (.Call (.Name "isinstance" p) [e, .Tuple [.Name "list" p2, .Name "tuple" p3] x1 p4] [] pos) (.bl (tf "list" d || tf "tuple" d)):=fun M0 H0 γ α σ H Q R k=>
 (il BH hg hm boot_isinstance (dQ g8 (dQ (Fm (dQ (vL (v:= .ty "list") hg1 hm1 (by decide +kernel) rfl (by decide) (by decide)) (dQ (vL (v:= .ty "tuple") hg2 hm2 (by decide +kernel) rfl (by decide) (by decide)) gD he4) (by rw [he3,he4]))) gD he2) he) (by decide) (by decide) he hpl).to
  (h M0 H0 γ α σ H _ R fun v H1 s1 d1=>⟨by show 2<=sizeLine; decide,fun q hq=>⟨v,q,_,d,rfl,bG,d1.same (bw hq),hp,k _ _ (s1.trans (bw hq)) rfl⟩⟩)
end
end Z
namespace K
open PySem L2 Z
theorem DQ{f:c_}(h1:0<=f.st)(h2:0<=f.ht):good f (eR f.st.toNat [])=true:=by
 unfold good
 rw [i7,decide_eq_true (by omega)]
 have e:(eR f.st.toNat ([]:List Int)).flatten= []:=by simp
 rw [e,decide_eq_true nZ]
 simp only [fF,a8]
 intro r hr
 rw [List.eq_of_mem_replicate hr]
 unfold fY
 simp [h2]
theorem rp{f:c_}{cell:Int}{st:List (List Int)×Option Int}{k:Nat}(h:good f st.1=true):good f (gH f cell st k).1=true:=by
 obtain⟨rows,oc⟩:=st
 cases oc with
 | none=>exact h
 | some c=>
  unfold gH
  dsimp only
  split
  ·rename_i hg; exact hg
  ·exact h
theorem rN{f:c_}{cell:Int}{rows:List (List Int)}{c:Int}(h:good f rows=true): ∀n,good f (place f cell rows c n).1=true
 | 0=>h
 | n+1=>by rw [nD]; exact rp (rN h n)
theorem p0{f:c_}: ∀(m:Nat) (cell:Int) (rows:List (List Int)) (left:List Int),good f rows=true->good f (nK f m cell rows left)=true
 | 0,_,_,_,h=>h
 | m+1,cell,rows,left,h=>p0 m _ _ _ (rN h _)
theorem t9{f:c_}{cell:Int}{crates:List Int}(h1:0<=f.st)(h2:0<=f.ht):good f (eC f cell crates)=true:=p0 _ _ _ _ (DQ h1 h2)
theorem gB{f:c_}{rows:List (List Int)}(h:good f rows=true):(rows.length:Int)=f.st:=by
 unfold good at h
 simp only [bA,decide_eq_true_eq]at h
 exact h.1.1
theorem zg{f:c_}{rows:List (List Int)}(h:good f rows=true){r:List Int}(hr:r∈rows){i:Int}(hi:i∈r):0<=i/\i<=9:=by
 unfold good at h
 simp only [bA,decide_eq_true_eq,a8]at h
 have h2:=h.2 r hr
 unfold fY at h2
 simp only [bA,decide_eq_true_eq,a8]at h2
 obtain⟨k,hk,e⟩:=dB hi
 have h3:=h2.2 k (dh.mpr hk)
 unfold tU at h3
 simp only [bA,decide_eq_true_eq]at h3
 have e2:r.getD k 0=i:=by rw [ao,ah hk]; exact e
 rw [e2]at h3
 exact h3.1
theorem r9{f:c_}{rows:List (List Int)}(h:good f rows=true)(hf:f.st<=4)(hh:f.ht<=6):rows.flatten.length<=24/\ ∀r∈rows,r.length<=6:=by
 have hr: ∀r∈rows,r.length<=6:=fun r hr=>by
  unfold good at h
  simp only [bA,decide_eq_true_eq,a8]at h
  have h2:=h.2 r hr
  unfold fY at h2
  simp only [bA,decide_eq_true_eq]at h2
  omega
 refine⟨?_,hr⟩
 have hl:=gB h
 have: ∀rs:List (List Int),(∀r∈rs,r.length<=6)->rs.flatten.length<=6 * rs.length:=fun rs=>by
  induction rs with
  | nil=>intro _; simp
  | cons a rs ih=>
   intro ha
   have h1:=ih fun r hr=>ha r (.tail _ hr)
   have h2:=ha a (.head _)
   rw [cL,aw,aH]
   omega
 have:=this rows hr
 omega
structure Bm(mg:Str->Option Value):Prop extends Bn mg where
 yb:mg "isinstance"=none
 int:mg "int"=none
 bool:mg "bool"=none
 all:mg "all"=none
 any:mg "any"=none
 zip:mg "zip"=none
 sorted:mg "sorted"=none
 min:mg "min"=none
 ie: ∃t,mg "FEWEST_STACKS"=some (.int 2 t)
 most: ∃t,mg "MOST_STACKS"=some (.int 4 t)
 low: ∃t,mg "LOWEST_HEIGHT"=some (.int 1 t)
 great: ∃t,mg "GREATEST_HEIGHT"=some (.int 6 t)
 weak: ∃t,mg "WEAKEST_CRANE"=some (.int 1 t)
 EV: ∃t,mg "STRONGEST_CRANE"=some (.int 3 t)
 Iz: ∃t,mg "MOST_BANS"=some (.int 20 t)
 fst: ∃t,mg "FIRST_CRATE"=some (.int 0 t)
 lst: ∃t,mg "LAST_CRATE"=some (.int 9 t)
theorem pk{X:Cx}{ρ:eZ}{x:Str}{z:Int}{pos:Pos}(h: ∃t,X.mg x=some (.int z t))(hg:Gl X x)(hd:(x==("__debug__":Str))=false:=by decide):az X ρ (.Name x pos) (.int z):=
 let⟨t,e⟩:=h; az.glob (v:= .int z) hg e ⟨t,rfl⟩ (fun _ _=>rfl) hd
abbrev C3(i:Nat):Stmt:=inClass (top 17) i
abbrev xS:Stmt:=inClass (top 17) 0
section
variable {P:av}{w:World}{K:Frag}{mg:Str->Option Value}{base:Heap}{CX:gM}
theorem DO:bQ ["value","least","most"] ["value","least","most"] (aL vI):=⟨rfl,rfl,rfl,by decide +kernel,rfl,by decide +kernel,by decide +kernel⟩
abbrev lu(P:av)(w:World)(K:Frag)(mg:Str->Option Value)(base:Heap)(CX:gM):Prop:=
 jU P w K mg base CX 1 "is_within" (fun i:Int×Int×Int=> [.int i.1, .int i.2.1, .int i.2.2]) (fun _=>True) (fun i=> .ok (.bl (decide (i.2.1<=i.1)&&decide (i.1<=i.2.2))))
theorem B9{f:Addr}{fd:bg}(B:Bm mg)(F:ji K "is_within" "is_within" vI f fd)(hm:mg "is_within"=some (.ref f))(hb:Binds K fd ["value","least","most"] []):lu P w K mg base CX:=by
 refine fN F DO hm hb (fun i=>rfl) fun cdv A outer s H E i M0 hp hr=>⟨_,rfl, ?_⟩
 obtain⟨v,lo,hi⟩:=i
 refine WS.cons (W1.ite (i6.t (i6.or (c8.not (c8.val (az.yb rfl B.yb rfl B.int (by decide +kernel) (.inl rfl) (az.r (nm 0 rfl rfl)) rfl))) fun _=>i6.or1 (c8.val (az.yb rfl B.yb rfl B.bool (by decide +kernel) (.inr (.inl rfl)) (az.r (nm 0 rfl rfl)) rfl)))) (fun h=> ?_) fun h=>WS.nil ?_)
 ·rw [HH,Ft]at h
  cases h
 ·exact WS.one (W1.ret (az.chain .le .le (nm 1 rfl rfl) (nm 0 rfl rfl) (nm 2 rfl rfl)) rfl)
def gK(i:Int):Bool:=decide (0<=i)&&decide (i<=9)
theorem HW:bQ ["value"] ["value"] (aL Aa):=⟨rfl,rfl,rfl,by decide +kernel,rfl,by decide +kernel,by decide +kernel⟩
abbrev va(P:av)(w:World)(K:Frag)(mg:Str->Option Value)(base:Heap)(CX:gM):Prop:=
 jU P w K mg base CX 2 "is_crate" (fun i:Int=> [.int i]) (fun _=>True) (fun i=> .ok (.bl (gK i)))
theorem DJ{f:Addr}{fd:bg}(nx:NX CX)(B:Bm mg)(G:lu P w K mg base CX)(F:ji K "is_crate" "is_crate" Aa f fd)(hm:mg "is_crate"=some (.ref f))(hb:Binds K fd ["value"] []):va P w K mg base CX:=by
 refine fN F HW hm hb (fun i=>rfl) fun cdv A outer s H E i M0 hp hr=>⟨_,rfl, ?_⟩
 exact WS.one (W1.ret (az.call G hr (bb nx) rfl (i,0,9) (bp.cons (nm 0 rfl rfl) (bp.cons (pk B.fst rfl) (bp.cons (pk B.lst rfl) bp.nil))) trivial rfl) rfl)
theorem GJ:bQ ["ban"] ["ban"] (aL z7):=⟨rfl,rfl,rfl,by decide +kernel,rfl,by decide +kernel,by decide +kernel⟩
def jj(p:Int×Int):Bool:=gK p.1&&(gK p.2&& !decide (p.1=p.2))
abbrev y8(P:av)(w:World)(K:Frag)(mg:Str->Option Value)(base:Heap)(CX:gM):Prop:=
 jU P w K mg base CX 3 "is_ban" (fun p:Int×Int=> [pD p]) (fun _=>True) (fun p=> .ok (.bl (jj p)))
theorem E9{f:Addr}{fd:bg}(nx:NX CX)(B:Bm mg)(G:va P w K mg base CX)(F:ji K "is_ban" "is_ban" z7 f fd)(hm:mg "is_ban"=some (.ref f))(hb:Binds K fd ["ban"] []):y8 P w K mg base CX:=by
 refine fN F GJ hm hb (fun i=>rfl) fun cdv A outer s H E p M0 hp hr=>⟨_,rfl, ?_⟩
 obtain⟨p1,p2⟩:=p
 refine WS.cons (W1.ite (i6.t (i6.or (c8.not (c8.val (az.yb rfl B.yb rfl B.tuple (by decide +kernel) (.inr (.inr (.inr (.inl rfl)))) (az.r (nm 0 rfl rfl)) rfl))) fun _=>i6.or1 (c8.cI .ne (az.lenT rfl B.len (nm 0 rfl rfl)) az.int))) (fun h=> ?_) fun h=>WS.nil ?_)
 ·rw [show tf "tuple" (pD (p1,p2))=true from rfl]at h
  simp at h
 ·exact WS.one (W1.ret (az.and (az.call G hr (bb nx) rfl p1 (bp.cons (az.ixT (nm 0 rfl rfl) az.int rfl) bp.nil) trivial rfl) fun _=>az.and (az.call G hr (bb nx) rfl p2 (bp.cons (az.ixT (nm 0 rfl rfl) az.int rfl) bp.nil) trivial rfl) fun _=>az.one (az.cI .ne (az.ixT (nm 0 rfl rfl) az.int rfl) (az.ixT (nm 0 rfl rfl) az.int rfl))) rfl)
theorem Cp:bQ ["bans"] ["bans"] (aL rf):=⟨rfl,rfl,rfl,by decide +kernel,rfl,by decide +kernel,by decide +kernel⟩
abbrev qY(P:av)(w:World)(K:Frag)(mg:Str->Option Value)(base:Heap)(CX:gM):Prop:=
 jU P w K mg base CX 4 "are_bans" (fun ps:List (Int×Int)=> [.lst (ps.map pD)]) (fun ps=>ps.length<=100) (fun ps=> .ok (.bl (decide (ps.length<=20)&&ps.all jj)))
theorem zF{f:Addr}{fd:bg}(nx:NX CX)(B:Bm mg)(G:y8 P w K mg base CX)(F:ji K "are_bans" "are_bans" rf f fd)(hm:mg "are_bans"=some (.ref f))(hb:Binds K fd ["bans"] []):qY P w K mg base CX:=by
 refine fN F Cp hm hb (fun i=>rfl) fun cdv A outer s H E ps M0 hp hr=>⟨_,rfl, ?_⟩
 have hp':ps.length<=100:=hp
 refine WS.cons (W1.ite (i6.t (i6.or (c8.not (c8.val (az.isi2 rfl B.yb rfl B.list rfl B.tuple (az.r (nm 0 rfl rfl)) rfl))) fun _=>i6.or1 (c8.cI .gt (az.lenL rfl B.len (az.r (nm 0 rfl rfl))) (pk B.Iz rfl)))) (fun h=> ?_) fun h=>WS.nil ?_)
 ·rw [show(tf "list" (D.lst (ps.map pD)) || tf "tuple" (D.lst (ps.map pD)))=true from rfl,ae]at h
  have h':(20:Int) < (ps.length:Int):=by simpa using h
  refine WS.one (W1.ret az.bl ?_)
  show D.bl false=D.bl (decide (ps.length<=20)&&ps.all jj)
  rw [decide_eq_false (by omega)]
  rfl
 ·rw [show(tf "list" (D.lst (ps.map pD)) || tf "tuple" (D.lst (ps.map pD)))=true from rfl,ae]at h
  have h': ¬(20:Int) < (ps.length:Int):=by simpa using h
  refine WS.one (W1.ret (az.to (az.all (bs:=ps.map jj) rfl rfl B.all (az.r (ef.toD (ef.comp (ds:=ps.map pD) (es:=(ps.map jj).map D.bl) (cs:= []) (dE.closed (by decide +kernel) (by decide +kernel) rfl (by decide +kernel) rfl) rfl (by decide +kernel) (ja.list (nm 0 rfl rfl)) r6 (by simp) (by rw [ae]; omega) ?_)))) (d':= .bl (decide (ps.length<=20)&&ps.all jj)) (by rw [jY,decide_eq_true (show ps.length<=20 by omega)]; rfl)) rfl)
  intro C s₀ H₀ fp pins i d e h1 h2
  rw [aj]at h1
  rw [aj,aj]at h2
  cases ei:ps[i]? with
  | none=>rw [ei]at h1; cases h1
  | some v=>
   rw [ei]at h1 h2
   cases h1
   cases h2
   exact az.call G hr (bb nx) rfl v (bp.cons (nm 0 rfl rfl) bp.nil) trivial rfl
end
end K
namespace Z
open PySem PySem.Spec PyProof.Rows L2
def yU(ns:List Int):List Int:=ns.mergeSort fun a b=>decide (a<=b)
theorem xf(ns:List Int):(yU ns).Perm ns:=List.mergeSort_perm _ _
theorem JJ(ns:List Int):(yU ns).Pairwise (· <= ·):=by
 have h:=List.pairwise_mergeSort (le:=fun a b:Int=>decide (a<=b)) (fun a b c h1 h2=>by simp only [decide_eq_true_eq]at *; omega) (fun a b=>by simp only [ud,decide_eq_true_eq]; omega) ns
 exact h.imp fun h=>of_decide_eq_true h
theorem Fh{ns ns':List Int}(hp:ns'.Perm ns)(hs:ns'.Pairwise (· <= ·)):ns'=yU ns:=
 List.Perm.eq_of_pairwise (fun a b _ _ h1 h2=>Int.le_antisymm h1 h2) hs (JJ ns) (hp.trans (xf ns).symm)
theorem mC(ns:List Int):(yU ns).length=ns.length:=(xf ns).length_eq
theorem oQ: ∀{us:List Value} {ns:List Int},iQ us ns->Vals (ns.map V.int) us
 | _,_, .nil=> .nil
 | _,_, .cons _ _ h=> .cons ⟨_,rfl⟩ (oQ h)
section
variable {X:Cx}{ρ:eZ}{M0:MP}{H0:Hp}{P:pE}{e a b c tg:Expr}{d:D}{ds:List D}{pos p p1 p2:Pos}
theorem vX:gz X (.builtin "sorted") (fun xs H Q=> ∃q ns,xs= [.ref q]/\lq X.K H q (ns.map V.int)/\ns.length < 64/\ ∀l,H l=none->Q (.ref l) (upd H l (.lst ((yU ns).map V.int)))):=by
 intro pins s σ H xs us Q I r ⟨q,ns,e,hq,hl,k⟩
 subst e
 obtain⟨u,rfl,rx⟩:=vals1 r
 cases rx
 obtain⟨its,r',pl,hz⟩:=I.list hq
 have hlen:=r'.length
 rw [ae]at hlen
 refine sorted_ints pl.isList (intsAre_of r') (by omega) fun out ns' a1 a2 a3=> ?_
 obtain⟨e,he⟩:=sortedAll_at s.heap its out
 have en:=Fh a2 a3
 subst en
 refine⟨.ref (s.heap.objs.size+1),_,I.laid (t':=s.toks) (fun b o e=>sortedAll_old e) (tj _) (o:= .lst ((yU ns).map V.int)) ⟨by rw [ae,mC]; exact jq (by omega),out.toList,e,oQ a1,by rw [he]⟩,rfl,k _ (I.dW.fresh (tj _))⟩
theorem ef.sortedI{ns:List Int}(hg:Gl X "sorted")(hm:X.mg "sorted"=none)(h:kT X ρ e (.lst (ns.map .int)))(hl:ns.length < 64)(he:ax [e] X.env= [(false,eval e X.env)]:=by rfl):ef X ρ (.Call (.Name "sorted" p) [e] [] pos) ((yU ns).map .int):=fun M0 H0 γ α σ H Q R k=>
 (il vX hg hm (by decide +kernel) (dQ g8 gD he) (by decide) (by decide) he).to (h M0 H0 γ α σ H _ R fun v H1 s1 d1=>by
  obtain⟨q,xs,rfl,sq,dn⟩:=d1
  rw [dn.ints]at sq
  exact⟨q,ns,rfl,sq,hl,fun l hl'=>k l _ H1 _ s1 hl' (bw hl') bG (cE.of_ints _)⟩)
end
section
variable {P:av}{w:World}{K:Frag}{mg:Str->Option Value}{base:Heap}{CX:gM}{k:Nat}{x qual:Str}{st:Stmt}{f:Addr}{fd:bg}{N ps:List Str}{ι:Type}{args:ι->List D}{pre:ι->Prop}{res:ι->Except Addr D}
theorem GW(F:ji K x qual st f fd)(S:bQ N ps (aL st))(hm:mg x=some (.ref f))(hb:Binds K fd ps [])(hl: ∀i,(args i).length=ps.length)
  (body: ∀(cdv:Value) (A:bC) (outer:List Env) (s:ai) (H:Hp) (E:XK) (i:ι) (M0:MP),pre i->fM k (A.deeper (lF qual (aL st) s.heap.objs.size f cdv))->
   ∃d,res i= .ok d/\ ∀(σ:St),Rep K M0 H [] (fun _=>0) (qS N (args i)) σ H->nE (nc CX P w K mg base N qual (aL st) f cdv A outer s H E).nox (bt st) (ends K M0 H [] {N:=fun _=>d= .non,R:=fun d'=>d'=d}) σ H):jU P w K mg base CX (k+1) x args pre res:=by
 refine⟨f,fd,ps, ?_,hm,F.kp,hb⟩
 obtain⟨oc,od,kV,doc,pm,an,cdv,ct,osl,rfl,lk,hcd⟩:=F.ex
 refine xO lk hcd S (fun vs H Q E ⟨i,M0,_,h,_⟩=>by rw [h.len,hl]) fun A outer s H vs Q E hr hsp=> ?_
 obtain⟨i,M0,hM,h,hp,k1,k2⟩:=hsp
 obtain⟨d,hd,ws⟩:=body cdv A outer s H E i M0 hp hr
 refine⟨nE _ (bt st),(gI (X:=(nc CX P w K mg base N qual (aL st) f cdv A outer s H E).nox)).nox, ?_⟩
 refine nE.mono (En:=ends K M0 H [] {N:=fun _=>d= .non,R:=fun d'=>d'=d}) (fun σ' H' ⟨α,ρ,R,e⟩=> ?_) (fun v H' ⟨d',e,sm,dn⟩=> ?_) (fun _ _ ⟨_,_,_,z⟩=>z.elim) (fun _ _ ⟨_,_,_,z⟩=>z.elim) (ws _ (rep0 hM h))
 ·exact k1 d hd .non H' R.same (by rw [e]; exact rfl)
 ·subst e
  exact k1 _ hd v H' sm dn
end
end Z
namespace Z
open PySem PySem.Spec PyProof.Rows
abbrev JG(l:List Env):List Addr:=l.filterMap (·.frame)
def Mo(h:Heap)(e T:Addr)(cls:Value):Prop:=
 T≠e/\(∃oe vs,h.get? e=some oe/\oe.cls=cls/\oe.data= .fields vs/\vs[1]? =some (.ref T)/\oe.dict=none)/\ ∃oT ts,h.get? T=some oT/\oT.data= .fields ts/\ts[3]? =some .none
structure AY(l:List Env)(ch:List Addr)(e T:Addr)(cls:Value)(h h':Heap):Prop where
 new:h.objs.size<=T
 tr:Mo h' e T cls
 keep: ∀b o,b∉ch->b∉JG l->h.get? b=some o->h'.get? b=some o
 slot: ∀b o,b∈JG l->h.get? b=some o-> ∃sl,h'.get? b=some {o with slots:=sl}
section
variable {M:Model}{A:bC}{E:Value->ai->Prop}{s:ai}
theorem De(f:Array Value->Array Value)(o:Obj):(gw f o).dict=o.dict:=by
 obtain⟨c,d,dt,sl⟩:=o
 cases dt <;> rfl
theorem q8{base:Heap}{env:Env}{outer:List Env}{L e:Addr}{oe:Obj}{vs:Array Value}{head:Value}{hn:Bool}{Q:Unit->ai->Prop}
  (hfr:A.frames=some (env::outer))(hl:s.heap.FunFrames base (env::outer))(hf:env.frame=some L)(he:s.heap.get? e=some oe)(hd:oe.data= .fields vs)(hsz:1 < vs.size)(hdn:oe.dict=none)
  (h: ∀h' T,AY (env::outer) [e] e T oe.cls s.heap h'->Q () {s with heap:=h'}):
  wpAny M A (do let a<-frameOf env; let pl<-entryPlaceOf L hn; let b<-EntryCells.newEntry head a .none (dI L) .none pl; fw (.ref e) 1 b) (fun _ s'=>wpAny M A (setFlight (.ref e) none) Q E s') E s:=by
 have nofr: ∀b∈JG (env::outer),b≠e:=fun b hb q=>by
  obtain⟨_,o,ho,nf⟩:=hl.mem hb
  rw [q,he]at ho
  cases ho
  exact nf vs hd
 refine aa (wpAny_frameOf_fun hfr hl hf fun h1 sl1=>aa (wpAny_entryPlaceOf fun pl hpl=> ?_))
 unfold EntryCells.newEntry newFields
 refine aa (a_ ?_ (hpl.sizeOk5 _ _ _ _ _))
 have e1:h1.get? e=some oe:=(sl1.2.1 e fun m=>nofr e m rfl).trans he
 generalize hO:({cls:= .type "traceback",dict:=none,data:= .fields ([head, .ref L, .none,dI L, .none] ++ (if pl.isEmpty then eR 6 bf else pl)).toArray}:Obj)=oT
 have dT: ∃ts:Array Value,oT.data= .fields ts/\3 < ts.size:=⟨_,by rw [<-hO],by simp only [aB,aw,aH]; omega⟩
 have fT:oT.isFreed=false:=by obtain⟨ts,q,_⟩:=dT; exact i9 q
 have e2:(h1.push oT).get? e=some oe:=af _ e1
 have t2:(h1.push oT).get? h1.objs.size=some oT:=ar _ fT
 have ne:h1.objs.size≠e:=bH (au e1)
 refine cY e2 hd hsz ?_
 generalize hU:(h1.push oT).update e (gw (·.setIfInBounds 1 (aq h1.objs.size)))=h3
 have d3:=f_ hd (·.setIfInBounds 1 (aq h1.objs.size))
 have e3:h3.get? e=some (gw (·.setIfInBounds 1 (aq h1.objs.size)) oe):=by rw [<-hU]; exact cU _ e2 (i9 d3)
 have k3: ∀b,b≠e->h3.get? b=(h1.push oT).get? b:=fun b hb=>by rw [<-hU]; exact cS _ _ hb.symm
 have t3:h3.get? h1.objs.size=some oT:=(k3 _ ne).trans t2
 obtain⟨ts,dts,lts⟩:=dT
 unfold setFlight
 refine aa (aU e3 d3 (x:= .ref h1.objs.size) (by simp [hsz]) ?_)
 rw [if_pos (show(aq h1.objs.size !=bf)=true from by simp)]
 refine cY t3 dts lts (h _ h1.objs.size ⟨mq sl1.1.symm,⟨ne,⟨_,_, ?_,Gg _ _,d3,by simp [hsz],(De _ _).trans hdn⟩,⟨_,_,cU _ t3 (i9 (f_ dts _)),f_ dts _,by simp [lts]⟩⟩,fun b o n1 n2 q=> ?_,fun b o m q=> ?_⟩)
 ·rw [cS _ _ ne]
  exact e3
 ·have q1:h1.get? b=some o:=(sl1.2.1 b n2).trans q
  have nb:h1.objs.size≠b:=bH (au q1)
  rw [cS _ _ nb,k3 b fun z=>n1 (by simp [z])]
  exact af _ q1
 ·obtain⟨sl,q1⟩:=sl1.2.2 b o q
  have nb:h1.objs.size≠b:=bH (au q1)
  refine⟨sl, ?_⟩
  rw [cS _ _ nb,k3 b (nofr b m)]
  exact af _ q1
theorem x_{base:Heap}{env:Env}{outer:List Env}{L e:Addr}{oe:Obj}{vs:Array Value}{Q:Unit->ai->Prop}(hfr:A.frames=some (env::outer))(hl:s.heap.FunFrames base (env::outer))(hf:env.frame=some L)
  (he:s.heap.get? e=some oe)(hd:oe.data= .fields vs)(h1:vs[1]? =some .none)(hdn:oe.dict=none)(h: ∀h' T,AY (env::outer) [e] e T oe.cls s.heap h'->Q () {s with heap:=h'}):wpAny M A (leaving env (.ref e)) Q E s:=by
 unfold leaving noteFrame
 simp only [hf]
 refine aa (aa (aU he hd h1 ?_))
 rw [if_neg (by decide)]
 exact q8 hfr hl hf he hd (dj.mp h1).1 hdn h
theorem zY{base:Heap}{env:Env}{outer:List Env}{L e T:Addr}{cls:Value}{Q:Unit->ai->Prop}(hfr:A.frames=some (env::outer))(hl:s.heap.FunFrames base (env::outer))(hf:env.frame=some L)(ht:Mo s.heap e T cls)
  (h: ∀h' T',AY (env::outer) [e,T] e T' cls s.heap h'->Q () {s with heap:=h'}):wpAny M A (leaving env (.ref e)) Q E s:=by
 obtain⟨ne,⟨oe,vs,he,hc,hd,h1,hdn⟩,oT,ts,hT,hdT,h3⟩:=ht
 subst hc
 unfold leaving noteFrame
 simp only [hf]
 refine aa (aa (aU he hd h1 ?_))
 rw [if_pos (show(aq T !=bf)=true from by simp)]
 refine aa (aU hT hdT h3 ?_)
 rw [if_neg (show ¬((bf==dI L)=true)from by simp [dI])]
 refine aa (cY hT hdT (dj.mp h3).1 ?_)
 have k: ∀b,b≠T->(s.heap.update T (gw (·.setIfInBounds 3 bf))).get? b=s.heap.get? b:=fun b hb=>cS _ _ hb.symm
 have nfT: ∀b∈JG (env::outer),b≠T:=fun b hb q=>by
  obtain⟨_,o,ho,nf⟩:=hl.mem hb
  rw [q,hT]at ho
  cases ho
  exact nf ts hdT
 refine q8 (s:={s with heap:=s.heap.update T (gw (·.setIfInBounds 3 bf))}) hfr (hl.of_keeps fun b o q nf=>⟨o,(k b fun z=> ?_).trans q,rfl⟩) hf ((k e ne.symm).trans he) hd (dj.mp h1).1 hdn fun h' T' x=>h h' T' ⟨?_,x.tr,fun b o n1 n2 q=> ?_,fun b o m q=> ?_⟩
 ·rw [z,hT]at q
  cases q
  exact nf ts hdT
 ·have:=x.new
  rw [show(tu {s with heap:=s.heap.update T (gw (·.setIfInBounds 3 bf))}).objs.size=s.heap.objs.size from Heap.size_after_update ..]at this
  exact this
 ·exact x.keep b o (fun z=>n1 (by simp at z; simp [z])) n2 ((k b fun z=>n1 (by simp [z])).trans q)
 ·exact x.slot b o m ((k b (nfT b m)).trans q)
end
end Z
namespace Z
open PySem PySem.Spec PyProof.Rows L2
def f6(P:av)(w:World):gM:=fun outer H s E e s'=> ∃(a T C:Addr) (H':Hp),e= .ref a/\s'.os=s.os/\ml s'.gens/\Un (yR outer) [] H H' s.heap s'.heap/\oq P w H' s'.heap/\s.heap.get? a=none/\s.heap.get? T=none/\H' a=none/\H' T=none/\Mo s'.heap a T (.ref C)/\E (.ref C) none H'
theorem i_{P:av}{w:World}: ∀l H s e s',f6 P w l H s E0 e s'->False:=fun _ _ _ _ _ ⟨_,_,_,_,_,_,_,_,_,_,_,_,_,_,z⟩=>z
section
variable {P:av}{w:World}{H:Hp}{h:Heap}{a:Addr}{o:HO}
theorem Cw(x:fI P w H h a o): ∃u,h.get? a=some u:=by
 cases o with
 | lst xs=>obtain⟨_,_,_,_,e⟩:=x; exact⟨_,e⟩
 | tup xs=>obtain⟨_,_,_,o,e,_⟩:=x; exact⟨_,e⟩
 | dK kvs=>obtain⟨_,_,_,_,o,_,_,e,_⟩:=x; exact⟨_,e⟩
 | dT kvs=>obtain⟨_,_,xs,_,o,es,ep,e,_⟩:=x; exact⟨_,e⟩
 | set S n=>obtain⟨o,es,ep,t,e,_⟩:=x; exact⟨_,e⟩
 | ins C dx fs=>obtain⟨_,_,_,e,_⟩:=x; exact⟨_,e⟩
 | own b=>exact x
 | xd fs=>obtain⟨_,⟨_,_,_,e,_⟩,_⟩:=x; exact⟨_,e⟩
 | xR lo hi=>obtain⟨_,_,_,e⟩:=x; exact⟨_,e⟩
 | frz o u=>exact⟨_,x.1⟩
 | tbl ps=>exact⟨_,x⟩
 | met f y=>exact⟨_,x⟩
 | ext φ=>exact x.2.1
theorem ER(x:oq P w H h)(e:h.get? a=none):H a=none:=by
 cases q:H a with
 | none=>rfl
 | some o=>
  obtain⟨u,z⟩:=Cw (x a o q)
  rw [e]at z; cases z
end
section
variable {X:Cx}{pins:List (Addr×Obj)}{σ:St}{H:Hp}{s:ai}{h':Heap}{ch:List Addr}{e T:Addr}{cls:Value}
theorem xJ(I:Inv X pins σ H s)(hst:X.stack=X.env::X.outer)(hex:X.ex= [])(hf:X.env.frame=some X.env.locals)(x:AY (X.env::X.outer) ch e T cls s.heap h')(hch: ∀b∈ch,H b=none/\X.s₀.heap.get? b=none):
  Un (yR X.outer) [] X.H₀ H X.s₀.heap h'/\oq X.prog X.w H h':=by
 have B:Un (yR X.outer) [] X.H₀ H X.s₀.heap s.heap:=by have:=I.base; rwa [hex]at this
 have nch: ∀b o,X.s₀.heap.get? b=some o->b∉ch:=fun b o q m=>by rw [(hch b m).2]at q; cases q
 have frl: ∀b,b∈JG (X.env::X.outer)↔b=X.env.locals\/b∈yR X.outer:=fun b=>by
  show b∈List.filterMap (·.frame) (X.env::X.outer)↔_
  rw [jR,hf]
  exact aO
 have nL: ∀b o,X.s₀.heap.get? b=some o->b≠X.env.locals:=fun b o q=>aF (aZ (au q) I.ok.above)
 refine⟨⟨fun b o q n hb _=> ?_,fun b o q n hb hx=> ?_,fun b o q n hx=>B.free b o q n hx,fun b o q hx=> ?_,B.wm,B.tO,B.vF⟩,fun b u q=> ?_⟩
 ·exact x.keep b o (nch b o q) (fun m=>((frl b).mp m).elim (nL b o q) hb) (B.keep b o q n hb (by simp))
 ·obtain⟨sl,q1⟩:=B.slot b o q n hb hx
  obtain⟨sl',q2⟩:=x.slot b _ ((frl b).mpr (.inr hb)) q1
  exact⟨sl',q2⟩
 ·obtain⟨o',q1⟩:=B.there b o q hx
  by_cases m:b∈JG (X.env::X.outer)
  ·obtain⟨sl,q2⟩:=x.slot b o' m q1
   exact⟨_,q2⟩
  ·exact⟨o',x.keep b o' (nch b o q) m q1⟩
 ·have ok: ∀c v,H c=some v->c∉ch/\c∉JG (X.env::X.outer):=fun c v z=>by
   refine⟨fun m=> ?_,fun m=> ?_⟩
   ·rw [(hch c m).1]at z
    cases z
   ·have:=I.stkFree c (by rw [hst]; exact m)
    rw [this]at z
    cases z
  refine(I.dW b u q).stay (fun c v hc z=> ?_) (fun _ z=>z) fun _ _ z=>z
  have:=hc.elim (fun z=>by rw [z]; exact ok b u q) fun z=>ok c _ z
  exact x.keep c v this.1 this.2 z
end
section
variable {P:av}{w:World}{K:Frag}{mg:Str->Option Value}{base:Heap}{N:List Str}{qual:Str}{scope:Scope}{f:Addr}{cd:Value}{A:bC}{outer:List Env}{s0:ai}{H0:Hp}{E:XK}
abbrev yV(P:av)(w:World)(K:Frag)(mg:Str->Option Value)(base:Heap)(N:List Str)(qual:Str)(scope:Scope)(f:Addr)(cd:Value)(A:bC)(outer:List Env)(s0:ai)(H0:Hp)(E:XK):Cx:=nc (f6 P w) P w K mg base N qual scope f cd A outer s0 H0 E
theorem z6{pins:List (Addr×Obj)}{σ:St}{H:Hp}{s:ai}{h1:Heap}{e C:Addr}{vs:List Value}(I:Inv (yV P w K mg base N qual scope f cd A outer s0 H0 E) pins σ H s)(m:Heap.MadeExcOf s.heap h1 e (.ref C) vs)(hE:E (.ref C) none H):
  (yV P w K mg base N qual scope f cd A outer s0 H0 E).xe (.ref e) {s with heap:=h1}:=by
 have I1:Inv (yV P w K mg base N qual scope f cd A outer s0 H0 E) pins σ H {s with heap:=h1}:=I.kept (t':=s.toks) m.keeps
 obtain⟨t,he,_,_⟩:=m.there
 have n0:s0.heap.get? e=none:=by
  cases q:s0.heap.get? e with
  | none=>rfl
  | some o=>
   obtain⟨o',z⟩:=I.base.there e o q (by simp [nc])
   rw [m.new]at z; cases z
 refine x_ (s:={s with heap:=h1}) (base:=base) I1.ok.frames I1.stack rfl he rfl rfl rfl fun h2 T x=> ?_
 have hH:H e=none:=ER I.dW m.new
 obtain⟨u,hk⟩:=xJ I1 rfl rfl rfl x (fun b hb=>by
  have:b=e:=by simpa using hb
  subst this
  exact⟨hH,n0⟩)
 have nT:s0.heap.get? T=none:=CU (bj I1.sz x.new)
 exact⟨e,T,C,H,rfl,I.os,I.bare,u,hk,n0,nT,hH,I1.dW.fresh x.new,x.tr,hE⟩
theorem k_:Passes (f6 P w) (yV P w K mg base N qual scope f cd A outer s0 H0 E) E:=by
 intro pins σ H s e s' I ⟨a,T,C,H',ee,os,bare,un,dW,na,nT,ha,hT,tr,hE⟩
 subst ee
 obtain⟨hh,g,d,tk,os'⟩:=s'
 obtain rfl:os'=s.os:=os
 have I1:Inv (yV P w K mg base N qual scope f cd A outer s0 H0 E) pins σ H' {s with heap:=hh,gens:=g,drawn:=d,toks:=tk}:=I.call (h':=hh) (g':=g) (d':=d) (t':=tk) (ch:= []) un dW bare (fun b z=>absurd z (by simp))
 have n0: ∀b,s.heap.get? b=none->s0.heap.get? b=none:=fun b z=>by
  cases q:s0.heap.get? b with
  | none=>rfl
  | some o=>
   obtain⟨o',z'⟩:=I.base.there b o q (by simp [nc])
   rw [z]at z'; cases z'
 refine zY (s:={s with heap:=hh,gens:=g,drawn:=d,toks:=tk}) (base:=base) I1.ok.frames I1.stack rfl tr fun h2 T' x=> ?_
 obtain⟨u,hk⟩:=xJ I1 rfl rfl rfl x (fun b hb=>by
  have:b=a\/b=T:=by simpa using hb
  rcases this with rfl | rfl
  ·exact⟨ha,n0 _ na⟩
  ·exact⟨hT,n0 _ nT⟩)
 have nT':s0.heap.get? T'=none:=CU (bj I1.sz x.new)
 exact⟨a,T',C,H',rfl,I.os,bare,u,hk,n0 _ na,nT',ha,I1.dW.fresh x.new,x.tr,hE⟩
end
abbrev y9:List Value:= [.type "ValueError", .type "Exception", .type "BaseException", .type "object"]
structure tP(x:Str)(C:Addr)(mg:Str->Option Value)(base:Heap):Prop where
 ex: ∃(newId Bn inN:String) (bmN:List Value),OwnCls x C y9 newId mg base/\ExcBaseFacts Bn newId inN bmN/\y9.contains (.type Bn)=true
def FX(X:Cx)(ρ:eZ)(E:XK)(e:Expr)(C:Addr):Prop:= ∀(M0:MP) (H0:Hp) (γ:List (D×V)) (α:Nat->Addr) (σ:St) (H:Hp) (Q:VK),Rep X.K M0 H0 γ α ρ σ H->(∀a H',bP H H'->E (.ref C) a H')->tE X e σ H Q
def s_(X:Cx)(ρ:eZ)(E:XK)(st:Stmt)(C:Addr):Prop:= ∀(M0:MP) (H0:Hp) (γ:List (D×V)) (α:Nat->Addr) (σ:St) (H:Hp) (En:Ends),Rep X.K M0 H0 γ α ρ σ H->(∀a H',bP H H'->E (.ref C) a H')->tS X st En σ H
def gi(X:Cx)(ρ:eZ)(E:XK)(st:List Stmt)(C:Addr):Prop:= ∀(M0:MP) (H0:Hp) (γ:List (D×V)) (α:Nat->Addr) (σ:St) (H:Hp) (En:Ends),Rep X.K M0 H0 γ α ρ σ H->(∀a H',bP H H'->E (.ref C) a H')->nE X st En σ H
section
variable {X:Cx}{ρ:eZ}{E:XK}{e c:Expr}{es:List Expr}{st:Stmt}{sts s1 s2:List Stmt}{C:Addr}{d:D}{pos p pos':Pos}{CX:gM}{k:Nat}{x:Str}{ι:Type}{args:ι->List D}{pre:ι->Prop}{res:ι->Except Addr D}
theorem FX.call{i:ι}(F:jU X.prog X.w X.K X.mg X.base CX k x args pre res)(hr:fM k X.A)(hx:Passes CX X E)(hg:Gl X x)(ha:bp X ρ (e::es) (args i))(hp:pre i)(hres:res i= .error C)(hdb:(x==("__debug__":Str))=false:=by decide)
  (he:ax (e::es) X.env=(false,eval e X.env)::ax es X.env:=by rfl)(hpl:(e_ pos (ax es X.env)).any (·.1)=false:=by rfl):FX X ρ E (.Call (.Name x p) (e::es) [] pos) C:=fun M0 H0 γ α σ H Q R kE=>by
 obtain⟨f,fd,ps,F,hm,hk,hb⟩:=F.ex
 refine(vQ F hr hg hm hk hb .nil hx vh hdb he hpl).to (ha M0 H0 γ α σ H _ R fun vs H1 s1 d1=> ?_)
 show nA X.K args pre res (vs ++ []) H1 Q E
 rw [bJ]
 exact⟨i,MM M0 ρ α,jE R s1,d1,hp,(fun d' e=>by rw [hres]at e; cases e),(fun C' e a H2 s2=>by rw [hres]at e; cases e; exact kE a H2 (s1.trans s2))⟩
theorem s_.expr(h:FX X ρ E e C)(hs:cO e none pos.line X.env=pure false:=by rfl):s_ X ρ E (.Expr e pos) C:=fun M0 H0 γ α σ H En R kE=>(mF g8 hs).to (h M0 H0 γ α σ H _ R kE)
theorem s_.ite{t:Bool}(h:c8 X ρ c t)(h1:t=true->gi X ρ E s1 C)(h2:t=false->gi X ρ E s2 C):s_ X ρ E (.If c s1 s2 pos) C:=fun M0 H0 γ α σ H En R kE=>
 (Ay Fw gI gI).to (h M0 H0 γ α σ H _ R fun H1 s=>by
  cases e:t with
  | true=>exact tZ (h1 e M0 H0 γ α σ H1 _ (R.next s) fun a H' s'=>kE a H' (s.trans s'))
  | false=>exact rD (h2 e M0 H0 γ α σ H1 _ (R.next s) fun a H' s'=>kE a H' (s.trans s')))
theorem gi.here(h:s_ X ρ E st C):gi X ρ E (st::sts) C:=fun M0 H0 γ α σ H En R kE=>(dS uM gI).to (h M0 H0 γ α σ H _ R kE)
theorem gi.expr(h:az X ρ e d)(k:gi X ρ E sts C)(hs:cO e none pos.line X.env=pure false:=by rfl):gi X ρ E (.Expr e pos::sts) C:=fun M0 H0 γ α σ H En R kE=>
 (dS uM gI).to ((mF g8 hs).to (h M0 H0 γ α σ H _ R fun v H' s _=>k M0 H0 γ α σ H' En (R.next s) fun a H2 s2=>kE a H2 (s.trans s2)))
end
section
variable {P:av}{w:World}{K:Frag}{mg:Str->Option Value}{base:Heap}{N:List Str}{qual:Str}{scope:Scope}{f:Addr}{cd:Value}{A:bC}{outer:List Env}{s0:ai}{H0:Hp}{E:XK}
theorem s_.raise{ρ:eZ}{x:Str}{C:Addr}{e:Expr}{d:D}{np cpos pos:Pos}(O:tP x C mg base)(hg:Gl (yV P w K mg base N qual scope f cd A outer s0 H0 E) x)(he:az (yV P w K mg base N qual scope f cd A outer s0 H0 E) ρ e d)
  (hs:ax [e] (yV P w K mg base N qual scope f cd A outer s0 H0 E).env= [(false,eval e (yV P w K mg base N qual scope f cd A outer s0 H0 E).env)]:=by rfl)(hdb:(x==("__debug__":Str))=false:=by decide):
  s_ (yV P w K mg base N qual scope f cd A outer s0 H0 E) ρ E (.Raise (some (.Call (.Name x np) [e] [] cpos)) none pos) C:=fun M0 Hb γ α σ H En R kE pins s I=>by
 obtain⟨newId,Bn,inN,bmN,O,Fn,hBn⟩:=O.ex
 obtain⟨tl,N',nm,q,bs,hdct,sn,sub,ab,col,dd,k0,k1,k2,k3,k5,mN,hC,hN,hni,T⟩:=O.obj
 have hlen: ∀us:List Value,us.length=1->us.length<=sizeLine:=fun us h=>by rw [h]; decide
 refine wpAny_Raise_call_subU (C:=C) (nm:=nm) (q:=q) (N:=N') (bs:=bs) (bm:=tl) (hdct:=hdct) (sn:=sn) (sub:=sub) (ab:=ab) (col:=col) (dd:=dd) (k0:=k0) (k1:=k1) (k2:=k2) (k3:=k3) (k5:=k5) (newId:=newId) Fn hBn wJ (mN:=mN) (T.hasType wJ.hasBase) (I.ok.hd rfl) (by rw [hs]; rfl) hni (qE I hg O.bound ⟨rfl, ?_⟩ hdb)
 have run:=(dQ (g8 (X:=yV P w K mg base N qual scope f cd A outer s0 H0 E) (e:=e)) gD hs) cpos pins s σ H (fun vs H1=>vs.length=1/\bP H H1) I (he M0 Hb γ α σ H _ R fun v H1 s1 _=>⟨rfl,s1⟩)
 rw [hs]at run ⊢
 refine Calls.evalArgs_plain (cF run (fun us s2 h2=> ?_) fun _ _ z=>z)
 obtain⟨vs,H1,I2,r2,l1,sm⟩:=h2
 have kp: ∀b o,base.get? b=some o->s2.heap.get? b=some o:=I2.bk
 exact⟨rfl,hlen us (r2.length▸l1),kp _ _ hC,hN.keeps kp,T.keeps kp,fun h' ex m=>z6 I2 m (kE none H1 sm)⟩
end
section
variable {P:av}{w:World}{K:Frag}{mg:Str->Option Value}{base:Heap}{k:Nat}{x qual:Str}{st:Stmt}{f:Addr}{fd:bg}{N ps:List Str}{ι:Type}{args:ι->List D}{pre:ι->Prop}{res:ι->Except Addr D}
theorem jr(F:ji K x qual st f fd)(S:bQ N ps (aL st))(hm:mg x=some (.ref f))(hb:Binds K fd ps [])(hl: ∀i,(args i).length=ps.length)
  (body: ∀(cdv:Value) (A:bC) (outer:List Env) (s:ai) (H:Hp) (E:XK) (i:ι) (M0:MP),pre i->fM k (A.deeper (lF qual (aL st) s.heap.objs.size f cdv))->
   (∃d,res i= .ok d/\WS (yV P w K mg base N qual (aL st) f cdv A outer s H E).nox M0 H (bt st) (qS N (args i)) {N:=fun _=>d= .non,R:=fun d'=>d'=d})\/
   ∃C,res i= .error C/\gi (yV P w K mg base N qual (aL st) f cdv A outer s H E) (qS N (args i)) E (bt st) C):jU P w K mg base (f6 P w) (k+1) x args pre res:=by
 refine⟨f,fd,ps, ?_,hm,F.kp,hb⟩
 obtain⟨oc,od,kV,doc,pm,an,cdv,ct,osl,rfl,lk,hcd⟩:=F.ex
 refine xO lk hcd S (fun vs H Q E ⟨i,M0,_,h,_⟩=>by rw [h.len,hl]) fun A outer s H vs Q E hr hsp=> ?_
 obtain⟨i,M0,hM,h,hp,k1,k2⟩:=hsp
 rcases body cdv A outer s H E i M0 hp hr with⟨d,hd,ws⟩ | ⟨C,hC,rs⟩
 ·refine⟨nE _ (bt st),(gI (X:=(yV P w K mg base N qual (aL st) f cdv A outer s H E).nox)).nox, ?_⟩
  refine nE.mono (En:=ends K M0 H [] {N:=fun _=>d= .non,R:=fun d'=>d'=d}) (fun σ' H' ⟨α,ρ,R,e⟩=> ?_) (fun v H' ⟨d',e,sm,dn⟩=> ?_) (fun _ _ ⟨_,_,_,z⟩=>z.elim) (fun _ _ ⟨_,_,_,z⟩=>z.elim) (ws [] (fun _=>0) _ H (rep0 hM h))
  ·exact k1 d hd .non H' R.same (by rw [e]; exact rfl)
  ·subst e
   exact k1 _ hd v H' sm dn
 ·exact⟨nE _ (bt st),gI (X:=yV P w K mg base N qual (aL st) f cdv A outer s H E),rs M0 H [] (fun _=>0) _ H _ (rep0 hM h) fun a H' sm=>k2 C hC a H' sm⟩
end
end Z
namespace Z
open PySem PySem.Spec PyProof.Rows
end Z
namespace Z
open PySem PySem.Spec PyProof.Rows L2
end Z
namespace Z
open PySem PySem.Spec PySem.W PyProof.Rows
end Z
namespace Z
open PySem PySem.Spec PyProof.Rows L2
def D.bare:Nat->D->Prop
 | _, .non=>True
 | _, .bl _=>True
 | _, .int _=>True
 | _, .str _=>True
 | n+1, .tup ds=> ∀d∈ds,D.bare n d
 | n+1, .ins _ _ ds=> ∀d∈ds,D.bare n d
 | _,_=>False
theorem cE.map1{K:Frag}{M M':MP}{H H':Hp}: ∀{ds:List D} {xs:List V},(∀d∈ds, ∀v,Dn K M H d v->Dn K M' H' d v)->cE K M H ds xs->cE K M' H' ds xs
 | [],_,_,h=>h
 | d::ds,_,k,⟨v,t,e,h1,h2⟩=>⟨v,t,e,k d (.head _) v h1,cE.map1 (fun x hx=>k x (.tail _ hx)) h2⟩
theorem Dn.bare{K:Frag}{M M':MP}{H:Hp}: ∀(n:Nat) {d:D} {v:V},D.bare n d->Dn K M H d v->Dn K M' H d v:=by
 intro n
 induction n with
 | zero=>intro d v hf h; cases d <;> first | exact h | exact hf.elim
 | succ n ih=>
  intro d v hf h
  cases d with
  | tup ds=>
   obtain⟨a,xs,e,s,r⟩:=h
   exact⟨a,xs,e,s,cE.map1 (fun d hd v=>ih (hf d hd)) r⟩
  | ins C ns ds=>
   obtain⟨a,dx,fs,e,s,hn,r⟩:=h
   exact⟨a,dx,fs,e,s,hn,cE.map1 (fun d hd v=>ih (hf d hd)) r⟩
  | non=>exact h
  | bl _=>exact h
  | int _=>exact h
  | str _=>exact h
  | _=>exact hf.elim
theorem Df(σ:St)(i:Nat):σ.set i (σ[i]?).join=σ:=by
 apply cA
 intro j
 rw [fm]
 split
 ·rename_i e
  subst e
  split
  ·rename_i h
   rw [ah h]
   rfl
  ·rename_i h
   rw [aI (sU h)]
 ·rfl
section
variable {K:Frag}{M:MP}{H:Hp}{a b:Addr}{o:Obj}{xs ys:List V}
theorem C9(ha:H a=some (.frz o (.lst xs)))(h:Rd H b (.lst ys)):Rd (upd H a (.lst xs)) b (.lst ys):=by
 by_cases hb:b=a
 ·subst hb
  rcases h with h | ⟨o',h⟩
  ·rw [ha]at h; cases h
  ·rw [ha]at h; cases h; exact .inl bG
 ·rcases h with h | ⟨o',h⟩
  ·exact .inl (by rw [cu hb]; exact h)
  ·exact .inr ⟨o',by rw [cu hb]; exact h⟩
theorem DC(ha:H a=some (.frz o (.lst xs)))(h:i5 K H b ys):i5 K (upd H a (.lst xs)) b ys:=by
 rcases h with(h | ⟨o',h⟩) | h
 ·exact .inl (.inl (by rw [cu fun z=>by rw [z,ha]at h; cases h]; exact h))
 ·exact .inl (.inr ⟨o',by rw [cu fun z=>by rw [z,ha]at h; cases h]; exact h⟩)
 ·exact .inr h
theorem EG(ha:H a=some (.frz o (.lst xs)))(h:FZ K M H b ys):FZ K M (upd H a (.lst xs)) b ys:=by
 rcases h with⟨h,m⟩ | h
 ·exact .inl ⟨C9 ha h,m⟩
 ·exact .inr h
mutual
theorem Dn.thaw(ha:H a=some (.frz o (.lst xs))): ∀{d:D} {v:V},Dn K M H d v->Dn K M (upd H a (.lst xs)) d v
 | .non,_,x=>x
 | .bl _,_,x=>x
 | .int _,_,x=>x
 | .str _,_,x=>x
 | .tup ds,_,⟨b,ys,e,s,r⟩=>⟨b,ys,e,DC ha s,cE.thaw ha r⟩
 | .lst ds,_,⟨b,ys,e,s,r⟩=>⟨b,ys,e,EG ha s,cE.thaw ha r⟩
 | .ins _ _ ds,_,⟨b,dx,fs,e,s,n,r⟩=>⟨b,dx,fs,e,by rw [cu fun z=>by rw [z,ha]at s; cases s]; exact s,n,cE.thaw ha r⟩
 | .exc C,_,⟨b,e,s⟩=>⟨b,e,by rw [cu fun z=>by rw [z,ha]at s; cases s]; exact s⟩
 | .dct _ _,_,⟨b,bs,e,s,l1,l2,r⟩=>⟨b,bs,e,by rw [cu fun z=>by rw [z,ha]at s; cases s]; exact s,l1,l2,cE.thaw ha r⟩
theorem cE.thaw(ha:H a=some (.frz o (.lst xs))): ∀{ds:List D} {vs:List V},cE K M H ds vs->cE K M (upd H a (.lst xs)) ds vs
 | [],_,x=>x
 | _::_,_,⟨v,r,e,p,q⟩=>⟨v,r,e,Dn.thaw ha p,cE.thaw ha q⟩
end
end
section
variable {K:Frag}{h:Heap}{mg:Str->Option Value}{x:Str}{C D0:Addr}{tl:List Value}{nid:String}
theorem Gu(ok:ic K C tl nid=true): ∃nm q N bs bm hdct sn sub ab col dd k0 k1 k2 k3 k5,K.lookup C=some (excClassObj nm q C N bs bm hdct sn sub ab col dd k0 k1 k2 k3 k5 nid)/\PySem.W.tailIn K tl bm=true/\PySem.W.nsOkIn K N=true/\fx K N "__init__"=some none:=by
 unfold ic at ok
 split at ok
 case h_2=>cases ok
 rename_i dct cdat slots look
 split at ok
 case h_2=>cases ok
 rename_i C2 above s0 s1 s2 s3 bid s5 em es
 simp only [fu,bA,beq_iff_eq]at ok
 obtain⟨⟨⟨⟨⟨w1,w2⟩,w3⟩,w4⟩,w5⟩,w6⟩:=ok
 subst w1 w2
 obtain⟨v1,v2,v3,v4,v5,v6,v7,v8,v9,v10,v11⟩:=cdat
 dsimp only at em w3 w5 w6
 subst em w3
 obtain⟨sl⟩:=slots
 have es':sl= [s0,s1,s2,s3,some (.builtin bid),s5]:=es
 subst es'
 exact⟨v1,v5,v4,v2,above,v6,v7,v8,v9,v10,dct,s0,s1,s2,s3,s5,look,w4,w5,w6⟩
theorem Cu(Cj:K.In h)(hmg:mg x=some (.ref C))(ok:ic K C tl nid=true):OwnCls x C tl nid mg h:=by
 obtain⟨nm,q,N,bs,bm,hdct,sn,sub,ab,col,dd,k0,k1,k2,k3,k5,look,w4,w5,w6⟩:=Gu ok
 exact⟨hmg,bm,N,nm,q,bs,hdct,sn,sub,ab,col,dd,k0,k1,k2,k3,k5,_,Cj _ _ look, .of_isNs (PySem.W.isNs_of_in Cj w5),PySem.W.nsMap_none_of_in Cj w5 w6,PySem.W.tail_of_in Cj w4⟩
theorem qJ(Cj:K.In h)(hmg:mg x=some (.ref C))(ok:ic K C y9 "ValueError.__new__"=true):tP x C mg h:=
 ⟨_,_,_,_,Cu Cj hmg ok,wJ,by decide +kernel⟩
end
theorem DG{l:IJ}{q:av}{loose:List Str}{XP:(Str->Option Value)->Heap->Prop}{YP:World->Heap->Prop}{d:DefRec}{K:Params->Frag}{k:Nat}(hr:fM k qr)(hn:l.most=some 63)(hdf:d.params.defaults= [])
  (hY: ∀(w:World) (h:Heap),YP w h->(K w.params).In h)
  (F: ∀(w:World) (mg:Str->Option Value) (fa:Addr) (h:Heap),(K w.params).In h->h.Ns cm mg->mg d.name=some (.ref fa)->
   ∃fd:bg,(∀(s:ai) (u:Value),BindsTo s fd ⟨[u], []⟩ [("script",u)])/\ ∀base:Heap,(K w.params).In base->base.Ns cm mg->lN l.prog w (K w.params) mg base (f6 l.prog w) k fa fd ["script"] (AN (K w.params))):
  PySem.W.WalkO q loose XP YP l.row.toRowW d [] (fun f vs=>PySem.call f vs):=
 L2.Gx (n:=63) (k:=k) (x:="script") (CX:=fun w=>f6 l.prog w) (sp:=fun w=>AN (K w.params)) hn (by decide) hdf hr hY F (fun w H a ns hl _ hS=>by
  refine⟨ns,JW,fun _ z=>z.elim,⟨.ref a, [],rfl,⟨a,ns.map V.int,rfl, ?_,cE.of_ints ns⟩,rfl⟩,hl,fun d' e v H' _ dn=> ?_,fun C e=>by cases e⟩
  ·rcases hS with s | s
   ·exact .inl ⟨s,fun z=>z⟩
   ·exact .inr s
  ·cases e
   exact dn) fun w H s e s' z=>i_ [] H s e s' z
section
variable {K:Frag}{M0:MP}{H0 Hs H:Hp}{γ:List (D×V)}{α:Nat->Addr}{ρ:eZ}{σ:St}{D0 l:Addr}{as:List Addr}{rows:List (List Int)}{o:HO}
theorem Rep.view{i:Nat}{d:D}{v:V}(r:Rep K M0 H0 γ α ρ σ H)(hi:i < ρ.length)(hσ:σ[i]? =some (some v))(h:Dn K (MM M0 ρ α) H d v):Rep K M0 H0 γ α (ρ.set i (.im d)) σ H:=by
 have e:σ.set i (some v)=σ:=by
  have:=Df σ i
  rw [hσ]at this
  exact this
 have h':=r.set_im hi h
 rwa [e]at h'
end
section
variable {X:Cx}{ρ:eZ}{M0:MP}{H0 Hs H:Hp}{γ:List (D×V)}{α:Nat->Addr}{σ:St}{En:Ends}{body:List Stmt}{b e tg:Expr}{d:D}{ds:List D}{pos p1 p2 p3 p4:Pos}{x:Str}{i:Nat}{D0 l:Addr}{as:List Addr}{rows:List (List Int)}{xs:List V}
theorem K8(hi:X.N[i]? =some x)(hv:wM X.env.scope x)(R:Rep X.K M0 H0 γ α ρ σ H)(hσ:σ[i]? =some (some (.ref l)))(hl:H l=some (.lst xs))(hz:xs.length < 1000000)(he:az X ρ e d)
  (q: ∀H1 v,bP H H1->Dn X.K (MM M0 ρ α) H1 d v->En.nx σ (upd H1 l (.lst (xs ++ [v]))))(mc:IB X (.Name x p1) "append" e p2 p3)(hd:(x==("__debug__":Str))=false:=by decide)(hcd:(x==("__classdict__":Str))=false:=by decide)
  (hsw:cO (.Call (.Attribute (.Name x p1) "append" p2) [e] [] p3) none pos.line X.env=pure false:=by rfl):tS X (.Expr (.Call (.Attribute (.Name x p1) "append" p2) [e] [] p3) pos) En σ H:=by
 obtain⟨m1,m2,m3,m4⟩:=mc
 refine(mF (xh fV yI yJ kM (jF hi hv hd hcd) vh m1 m2 m3 m4 rfl) hsw).to ?_
 refine⟨_,hσ, .inl ⟨rfl,_,lq.of hl⟩,(bp.cons he bp.nil m4) M0 H0 γ α σ H _ R fun vs H1 s y=> ?_⟩
 obtain⟨v,r,rfl,e1,e2⟩:=y
 cases e2
 exact⟨l,xs,v,rfl,rfl,s _ _ hl,vB hz,q H1 v s e1⟩
end
end Z
namespace Z
open PySem PySem.Spec PySem.W PyProof.Rows
abbrev Kd:=PyProof.Rows.Keyed
structure lV(S:Kd->Prop)(lt:Kd->Kd->Bool):Prop where
 tot: ∀x y,S x->S y->x≠y->lt x y=false->lt y x=true
 EH: ∀x y,lt x y=true->lt y x=false
 tr: ∀x y z,lt x y=true->lt y z=true->lt x z=true
def sj(prog:av)(w:World)(A:bC)(s:ai)(κ:jv)(S:Kd->Prop)(lt:Kd->Kd->Bool):Prop:=
 ∀(x y:Kd) (Q:Bool->ai->Prop),S x->S y->Q (lt x y) s->wpAny (model prog w) A (keyLt' κ x.1 y.1) Q (fun _ _=>False) s
def Hu:Bool->Kd->Array Kd->Nat->Nat->Nat->StateT cb Sem (Option Nat):=sortPriv% PySem.Builtin.gallop
section
variable {prog:av}{w:World}{A:bC}{E:Value->ai->Prop}{s:ai}{κ:jv}{S:Kd->Prop}{lt:Kd->Kd->Bool}{st:cb}
theorem q9{x y:Kd}{Q:Option Bool->cb->Prop}(c:sj prog w A s κ S lt)(hk:kindOf st=κ)(hx:S x)(hy:S y)(h:Q (some (lt x y)) st):wpS (model prog w) A E s (lt' x y) Q st:=by
 rw [lt'_eq]
 refine aE (mw ?_)
 rw [hk]
 refine aE (qw (hV (cF (c x y (fun b s'=>b=lt x y/\s'=s) hx hy ⟨rfl,rfl⟩) ?_ fun _ _ z=>z.elim)))
 rintro b s' ⟨rfl,rfl⟩
 exact⟨rfl,aJ h⟩
theorem cN{arr:Array Kd}{i:Nat}{x:Kd}{Q:Kd->cb->Prop}(hi:arr[i]? =some x)(h:Q x st):wpS (model prog w) A E s (elem' arr i) Q st:=by
 rw [elem'_eq,hi]
 exact aJ h
theorem GR{left:Bool}{key:Kd}{arr:Array Kd}{i:Nat}{x:Kd}{Q:Option Bool->cb->Prop}(o:lV S lt)(c:sj prog w A s κ S lt)(hk:kindOf st=κ)(hi:arr[i]? =some x)(hx:S x)(hy:S key)(hne:x≠key)(h:Q (some (lt x key)) st):
  wpS (model prog w) A E s (do let x<-elem' arr i; if left=true then lt' x key else do let r<-lt' key x; pure (r.map (!·))) Q st:=by
 refine aE (cN hi ?_)
 cases left with
 | true=>exact q9 c hk hx hy h
 | false=>
  refine aE (q9 c hk hy hx (aJ ?_))
  have:(!lt key x)=lt x key:=by
   cases e:lt x key with
   | true=>rw [o.EH _ _ e]; rfl
   | false=>rw [o.tot _ _ hx hy hne e]; rfl
  show Q (some (!lt key x)) st
  rw [this]
  exact h
theorem rU{n lo hi:Nat}{p:Nat->Bool}{ω:Type}{f:Nat->Option ω×Nat×Nat->StateT cb Sem (ForInStep (Option ω×Nat×Nat))}{Q:Option ω×Nat×Nat->cb->Prop}
  (hf: ∀x lo hi (Q':ForInStep (Option ω×Nat×Nat)->cb->Prop),hi<=n->(hi<=lo->Q' (.done (none,lo,hi)) st)->(lo < hi->p (lo+(hi - lo) / 2)=true->Q' (.yield (none,lo+(hi - lo) / 2+1,hi)) st)->(lo < hi->p (lo+(hi - lo) / 2)=false->Q' (.yield (none,lo,lo+(hi - lo) / 2)) st)->wpS (model prog w) A E s (f x (none,lo,hi)) Q' st)
  (hp: ∀i j,i<=j->j < n->p j=true->p i=true)(h1:lo<=hi)(h2:hi<=n)(h3: ∀i,i < lo->p i=true)(h4: ∀i,hi<=i->i < n->p i=false)
  (h: ∀k,k<=n->(∀i,i < k->p i=true)->(∀i,k<=i->i < n->p i=false)->Q (none,k,k) st):wpS (model prog w) A E s (forIn [0:n] (none,lo,hi) f) Q st:=by
 have dn: ∀i j,i<=j->j < n->p i=false->p j=false:=fun i j hij hj e=>by
  cases e2:p j with
  | false=>rfl
  | true=>rw [hp i j hij hj e2]at e; cases e
 refine c0 (I:=fun x c st'=>st'=st/\ ∃lo hi,c=(none,lo,hi)/\lo<=hi/\hi<=n/\hi - lo<=n - x/\(∀i,i < lo->p i=true)/\(∀i,hi<=i->i < n->p i=false)) ?_ ?_ ⟨rfl,lo,hi,rfl,h1,h2,by omega,h3,h4⟩
 ·rintro x c st' _ hx ⟨rfl,lo,hi,rfl,h1,h2,h5,h3,h4⟩
  refine hf x lo hi _ h2 (fun e=> ?_) (fun e q=>⟨rfl,_,_,rfl,by omega,h2,by omega,fun i hi'=>hp i _ (by omega) (by omega) q,h4⟩) fun e q=>⟨rfl,_,_,rfl,by omega,by omega,by omega,h3,fun i hi' hn=>dn _ i hi' hn q⟩
  have:lo=hi:=by omega
  subst this
  exact h lo h2 h3 h4
 ·rintro c st' ⟨rfl,lo,hi,rfl,h1,h2,h5,h3,h4⟩
  have:lo=hi:=by omega
  subst this
  exact h lo h2 h3 h4
set_option maxHeartbeats 1000000 in
theorem iI{left:Bool}{key:Kd}{arr:Array Kd}{base n hint:Nat}{g:Nat->Kd}{Q:Option Nat->cb->Prop}(o:lV S lt)(c:sj prog w A s κ S lt)(hk:kindOf st=κ)
  (hg: ∀i,i < n->arr[base+i]? =some (g i))(hS: ∀i,i < n->S (g i))(hne: ∀i,i < n->g i≠key)(hy:S key)(hm: ∀i j,i < j->j < n->lt (g i) (g j)=true)(hh:hint < n)
  (h: ∀k,k<=n->(∀i,i < k->lt (g i) key=true)->(∀i,k<=i->i < n->lt (g i) key=false)->Q (some k) st):wpS (model prog w) A E s (Hu left key arr base n hint) Q st:=by
 have far: ∀i,i < n-> ∀Q':Option Bool->cb->Prop,Q' (some (lt (g i) key)) st->wpS (model prog w) A E s (do let x<-elem' arr (base+i); if left=true then lt' x key else do let r<-lt' key x; pure (r.map (!·))) Q' st:=fun i hi Q' hq=>GR o c hk (hg i hi) (hS i hi) hy (hne i hi) hq
 have up: ∀i j,i<=j->j < n->lt (g j) key=true->lt (g i) key=true:=fun i j hij hj e=>by
  rcases Nat.lt_or_eq_of_le hij with z | rfl
  ·exact o.tr _ _ _ (hm i j z hj) e
  ·exact e
 have dn: ∀i j,i<=j->j < n->lt (g i) key=false->lt (g j) key=false:=fun i j hij hj e=>by
  cases e2:lt (g j) key with
  | false=>rfl
  | true=>rw [up i j hij hj e2]at e; cases e
 refine aE (far hint hh _ ?_)
 cases eh:lt (g hint) key with
 | true=>
  dsimp only
  rw [if_pos rfl]
  refine aE (eG (c0 (I:=fun x c st'=>st'=st/\ ∃la ofs,c=(none,la,ofs)/\la < ofs/\x+1<=ofs/\hint+la < n/\lt (g (hint+la)) key=true)
   (Q:=fun c st'=>st'=st/\ ∃la ofs,c=(none,la,ofs)/\la < ofs/\hint+la < n/\lt (g (hint+la)) key=true/\(n - hint<=ofs\/(hint+ofs < n/\lt (g (hint+ofs)) key=false))) ?_ ?_ ⟨rfl,0,1,rfl,by omega,by omega,by omega,eh⟩) ?_)
  ·rintro x c st' _ hx ⟨rfl,la,ofs,rfl,l1,l2,l3,l4⟩
   dsimp only
   by_cases z:ofs>=n - hint
   ·rw [if_pos z]
    exact aJ ⟨rfl,la,ofs,rfl,l1,l3,l4, .inl z⟩
   ·rw [if_neg z]
    refine aE (far (hint+ofs) (by omega) _ ?_)
    cases em:lt (g (hint+ofs)) key with
    | true=>exact aJ ⟨rfl,ofs,2 * ofs+1,rfl,by omega,by omega,by omega,em⟩
    | false=>exact aJ ⟨rfl,la,ofs,rfl,l1,l3,l4, .inr ⟨by omega,em⟩⟩
  ·rintro c st' ⟨rfl,la,ofs,rfl,l1,l2,l3,l4⟩
   exact⟨rfl,la,ofs,rfl,l1,l3,l4, .inl (by omega)⟩
  ·rintro c st' ⟨rfl,la,ofs,rfl,l1,l3,l4,l5⟩
   dsimp only
   refine aE (rU (p:=fun i=>lt (g i) key) (fun x lo hi Q' hn k1 k2 k3=> ?_) up (by omega) (by omega) (fun i hi=>up i _ (by omega) l3 l4) (fun i hi hn=> ?_) fun k hk h1 h2=>aJ (h k hk h1 h2))
   ·dsimp only
    by_cases z:lo>=hi
    ·rw [if_pos z]
     exact aJ (k1 z)
    ·rw [if_neg z]
     refine aE (far (lo+(hi - lo) / 2) (by omega) _ ?_)
     cases em:lt (g (lo+(hi - lo) / 2)) key with
     | true=>exact aJ (k2 (by omega) em)
     | false=>exact aJ (k3 (by omega) em)
   ·rcases l5 with l5 | ⟨l5,l6⟩
    ·omega
    ·exact dn (hint+ofs) i (by omega) hn l6
 | false=>
  dsimp only
  rw [if_neg (by simp)]
  refine aE (eG (c0 (I:=fun x c st'=>st'=st/\ ∃la ofs,c=(none,la,ofs)/\la < ofs/\x+1<=ofs/\la<=hint/\lt (g (hint - la)) key=false)
   (Q:=fun c st'=>st'=st/\ ∃la ofs,c=(none,la,ofs)/\la < ofs/\la<=hint/\lt (g (hint - la)) key=false/\(hint+1<=ofs\/(ofs<=hint/\lt (g (hint - ofs)) key=true))) ?_ ?_ ⟨rfl,0,1,rfl,by omega,by omega,by omega,eh⟩) ?_)
  ·rintro x c st' _ hx ⟨rfl,la,ofs,rfl,l1,l2,l3,l4⟩
   dsimp only
   by_cases z:ofs>=hint+1
   ·rw [if_pos z]
    exact aJ ⟨rfl,la,ofs,rfl,l1,l3,l4, .inl z⟩
   ·rw [if_neg z]
    refine aE (far (hint - ofs) (by omega) _ ?_)
    cases em:lt (g (hint - ofs)) key with
    | true=>exact aJ ⟨rfl,la,ofs,rfl,l1,l3,l4, .inr ⟨by omega,em⟩⟩
    | false=>exact aJ ⟨rfl,ofs,2 * ofs+1,rfl,by omega,by omega,by omega,em⟩
  ·rintro c st' ⟨rfl,la,ofs,rfl,l1,l2,l3,l4⟩
   exact⟨rfl,la,ofs,rfl,l1,l3,l4, .inl (by omega)⟩
  ·rintro c st' ⟨rfl,la,ofs,rfl,l1,l3,l4,l5⟩
   dsimp only
   refine aE (rU (p:=fun i=>lt (g i) key) (fun x lo hi Q' hn k1 k2 k3=> ?_) up (by omega) (by omega) (fun i hi=> ?_) (fun i hi hn=>dn (hint - la) i hi hn l4) fun k hk h1 h2=>aJ (h k hk h1 h2))
   ·dsimp only
    by_cases z:lo>=hi
    ·rw [if_pos z]
     exact aJ (k1 z)
    ·rw [if_neg z]
     refine aE (far (lo+(hi - lo) / 2) (by omega) _ ?_)
     cases em:lt (g (lo+(hi - lo) / 2)) key with
     | true=>exact aJ (k2 (by omega) em)
     | false=>exact aJ (k3 (by omega) em)
   ·rcases l5 with l5 | ⟨l5,l6⟩
    ·omega
    ·exact up i (hint - ofs) (by omega) (by omega) l6
end
abbrev kC(lt:Kd->Kd->Bool)(l:List Kd):Prop:=l.Pairwise fun x y=>lt x y=true
structure ip(lt:Kd->Kd->Bool)(a b out:List Kd)(ia ib:Nat):Prop where
 ha:ia<=a.length
 hb:ib<=b.length
 perm:out.Perm (a.take ia ++ b.take ib)
 yU:kC lt out
 lo: ∀x∈out, ∀y,(y∈a.drop ia\/y∈b.drop ib)->lt x y=true
section
variable {lt:Kd->Kd->Bool}{a b out:List Kd}{ia ib k:Nat}
theorem ip.swap(m:ip lt a b out ia ib):ip lt b a out ib ia:=⟨m.hb,m.ha,m.perm.trans cK,m.yU,fun x hx y hy=>m.lo x hx y hy.symm⟩
theorem Du(a:List Kd)(i k:Nat):a.drop i=(a.drop i).take k ++ a.drop (i+k):=by
 rw [<-List.drop_drop,aX]
theorem ip.pushA(m:ip lt a b out ia ib)(hk:ia+k<=a.length)(sa:kC lt a)(h: ∀x∈(a.drop ia).take k, ∀y∈b.drop ib,lt x y=true):ip lt a b (out ++ (a.drop ia).take k) (ia+k) ib:=by
 have sd:kC lt (a.drop ia):=cV (k9 ia a) sa
 have cut:=Du a ia k
 have sd':=sd
 rw [cut]at sd'
 have c:=bS.mp sd'
 refine⟨hk,m.hb, ?_,bS.mpr ⟨m.yU,c.1,fun x hx y hy=>m.lo x hx y (.inl (gP hy))⟩,fun x hx y hy=> ?_⟩
 ·have e:a.take (ia+k)=a.take ia ++ (a.drop ia).take k:=List.take_add
  rw [e]
  refine(m.perm.append_right _).trans ?_
  rw [aP,aP]
  exact dG _ cK
 ·rcases bI.mp hx with hx | hx
  ·exact m.lo x hx y (hy.imp (fun z=>by rw [cut]; exact bx _ z) id)
  ·rcases hy with hy | hy
   ·exact c.2.2 x hx y hy
   ·exact h x hx y hy
theorem ip.pushB(m:ip lt a b out ia ib)(hk:ib+k<=b.length)(sb:kC lt b)(h: ∀x∈(b.drop ib).take k, ∀y∈a.drop ia,lt x y=true):ip lt a b (out ++ (b.drop ib).take k) ia (ib+k):=(m.swap.pushA hk sb h).swap
theorem take_one{x:Kd}{i:Nat}(h:a[i]? =some x):(a.drop i).take 1= [x]:=by
 obtain⟨hi,e⟩:=aD.mp h
 rw [kQ hi,e]
 rfl
theorem above{S:Kd->Prop}(o:lV S lt)(sa:kC lt a){x y z:Kd}{i:Nat}(h:a[i]? =some x)(hz:lt z x=true)(hy:y∈a.drop i):lt z y=true:=by
 obtain⟨hi,e⟩:=aD.mp h
 have sd:kC lt (a.drop i):=cV (k9 i a) sa
 rw [kQ hi,e]at hy sd
 rcases aO.mp hy with rfl | hy
 ·exact hz
 ·exact o.tr _ _ _ hz ((b8.mp sd).1 y hy)
theorem ip.finB(m:ip lt a b out ia ib)(sa:kC lt a)(sb:kC lt b)(h: ∀x∈b.drop ib, ∀y∈a.drop ia,lt x y=true):(out ++ b.drop ib ++ a.drop ia).Perm (a ++ b)/\kC lt (out ++ b.drop ib ++ a.drop ia):=by
 constructor
 ·have e1:(a ++ b).Perm ((a.take ia ++ a.drop ia) ++ (b.take ib ++ b.drop ib)):=by rw [aX,aX]
  refine jP ?_ e1.symm
  rw [aP]
  refine(m.perm.append_right _).trans ?_
  rw [aP,aP]
  refine dG _ ?_
  rw [<-aP]
  exact cK
 ·refine bS.mpr ⟨bS.mpr ⟨m.yU,cV (k9 ib b) sb,fun x hx y hy=>m.lo x hx y (.inr hy)⟩,cV (k9 ia a) sa,fun x hx y hy=> ?_⟩
  rcases bI.mp hx with hx | hx
  ·exact m.lo x hx y (.inl hy)
  ·exact h x hx y hy
theorem ip.finA(m:ip lt a b out ia ib)(sa:kC lt a)(sb:kC lt b)(h: ∀x∈a.drop ia, ∀y∈b.drop ib,lt x y=true):(out ++ a.drop ia ++ b.drop ib).Perm (a ++ b)/\kC lt (out ++ a.drop ia ++ b.drop ib):=
 let⟨p,q⟩:=m.swap.finB sb sa h; ⟨p.trans cK,q⟩
end
def gc(st st':cb):Prop:=kindOf st'=kindOf st/\arrOf st'=arrOf st/\ck st'=ck st/\gS st'=gS st
theorem gc.refl(st:cb):gc st st:=⟨rfl,rfl,rfl,rfl⟩
theorem gc.trans{a b c:cb}(x:gc a b)(y:gc b c):gc a c:=⟨y.1.trans x.1,y.2.1.trans x.2.1,y.2.2.1.trans x.2.2.1,y.2.2.2.trans x.2.2.2⟩
def HU:Nat->StateT cb Sem Unit:=sortPriv% PySem.Builtin.setMinGallop
def Fb:Array Kd->Array Kd->StateT cb Sem (Array Kd):=sortPriv% PySem.Builtin.mergeLo
def C8:Array Kd->Array Kd->StateT cb Sem (Array Kd):=sortPriv% PySem.Builtin.mergeHi
section
variable {prog:av}{w:World}{A:bC}{E:Value->ai->Prop}{s:ai}{κ:jv}{S:Kd->Prop}{lt:Kd->Kd->Bool}{st:cb}
theorem lC{g:Nat}{Q:Unit->cb->Prop}(h: ∀st',gc st st'->Q () st'):wpS (model prog w) A E s (HU g) Q st:=mx (h _ ⟨rfl,rfl,rfl,rfl⟩)
structure m_(S:Kd->Prop)(lt:Kd->Kd->Bool)(a b:Array Kd):Prop where
 sa:kC lt a.toList
 sb:kC lt b.toList
 Sa: ∀x∈a.toList,S x
 Sb: ∀x∈b.toList,S x
 ne: ∀x∈a.toList, ∀y∈b.toList,x≠y
 na:0 < a.size
 nb:0 < b.size
 fst: ∀x∈a.toList,lt (b[0]'nb) x=true
 lst: ∀x∈b.toList,lt x (a[a.size - 1]'(by omega))=true
theorem b_{α:Type}{c:Prop}{dc:Decidable c}{m1 m2:StateT cb Sem α}{Q:α->cb->Prop}(h1:c->wpS (model prog w) A E s m1 Q st)(h2: ¬c->wpS (model prog w) A E s m2 Q st):wpS (model prog w) A E s (if c then m1 else m2) Q st:=by
 by_cases e:c
 ·rw [if_pos e]; exact h1 e
 ·rw [if_neg e]; exact h2 e
theorem wc(a:Array Kd)(i k:Nat):(a.extract i (i+k)).toList=(a.toList.drop i).take k:=by
 rw [ju,kR,iF]
theorem qA(a:Array Kd)(i:Nat):(a.extract i).toList=a.toList.drop i:=by
 rw [ju,kR,dw]
 rw [bL,ak]
 omega
def Res(lt:Kd->Kd->Bool)(a b r:Array Kd):Prop:=r.toList.Perm (a.toList ++ b.toList)/\kC lt r.toList
theorem m_.ga{a b:Array Kd}(t:m_ S lt a b){i:Nat}(h:i < a.size):S a[i]:=t.Sa _ (by simp)
theorem m_.gb{a b:Array Kd}(t:m_ S lt a b){i:Nat}(h:i < b.size):S b[i]:=t.Sb _ (by simp)
theorem at_(a:Array Kd){i:Nat}(h:i < a.size):a[i]? =some a[i]:=by simp [h]
theorem HQ(a:Array Kd){i:Nat}(h:i < a.size):a.toList[i]? =some a[i]:=by simp [h]
theorem m_.nab{a b:Array Kd}(t:m_ S lt a b){i j:Nat}(h:i < a.size)(h':j < b.size):a[i]≠b[j]:=t.ne _ (by simp) _ (by simp)
theorem m_.upA{a b:Array Kd}(t:m_ S lt a b){i j:Nat}(h:i < j)(h':j < a.size):lt a[i] a[j]=true:=by
 have:=cf.mp t.sa i j (by rw [ak]; omega) (by rw [ak]; omega) h
 simpa using this
theorem m_.upB{a b:Array Kd}(t:m_ S lt a b){i j:Nat}(h:i < j)(h':j < b.size):lt b[i] b[j]=true:=by
 have:=cf.mp t.sb i j (by rw [ak]; omega) (by rw [ak]; omega) h
 simpa using this
theorem kB{a:Array Kd}{i:Nat}{y:Kd}(h:y∈a.toList.drop i): ∃j,i<=j/\ ∃hj:j < a.size,y=a[j]:=by
 obtain⟨k,hk,e⟩:=aN.mp h
 rw [bL,ak]at hk
 refine⟨i+k,by omega,by omega, ?_⟩
 rw [<-e,dA]
 simp
theorem AR{a:Array Kd}{i k:Nat}{y:Kd}(h:y∈(a.toList.drop i).take k): ∃j,i<=j/\j < i+k/\ ∃hj:j < a.size,y=a[j]:=by
 obtain⟨m,hm,e⟩:=aN.mp h
 rw [br,bL,ak]at hm
 refine⟨i+m,by omega,by omega,by omega, ?_⟩
 rw [<-e,fy,dA]
 simp
section
variable {a b out:Array Kd}{ia ib:Nat}
theorem m_.doneB(t:m_ S lt a b)(m:ip lt a.toList b.toList out.toList ia ib)(h:b.size<=ib\/a.size<=ia):Res lt a b (out ++ a.extract ia ++ b.extract ib):=by
 have:=m.finA t.sa t.sb fun x hx y hy=>by
  obtain⟨j,h1,h2,_⟩:=kB hx
  obtain⟨j',h1',h2',_⟩:=kB hy
  omega
 unfold Res
 rw [cv,cv,qA,qA]
 exact this
theorem m_.lastA(t:m_ S lt a b)(m:ip lt a.toList b.toList out.toList ia ib)(h:ia+1=a.size):Res lt a b (out ++ b.extract ib ++ a.extract ia):=by
 have:=m.finB t.sa t.sb fun x hx y hy=>by
  obtain⟨j,h1,h2,rfl⟩:=kB hx
  obtain⟨j',h1',h2',rfl⟩:=kB hy
  have:=t.lst b[j] (by simp)
  have e:j'=a.size - 1:=by omega
  subst e
  exact this
 unfold Res
 rw [cv,cv,qA,qA]
 exact this
theorem m_.oneB(o:lV S lt)(t:m_ S lt a b)(m:ip lt a.toList b.toList out.toList ia ib)(hb:ib < b.size)(h: ∀y∈a.toList.drop ia,lt b[ib] y=true):ip lt a.toList b.toList (out.push b[ib]).toList ia (ib+1):=by
 have:=m.pushB (k:=1) (by rw [ak]; omega) t.sb fun x hx y hy=>by
  rw [take_one (HQ b hb)]at hx
  rcases aK.mp hx with rfl
  exact h y hy
 rw [take_one (HQ b hb)]at this
 rw [iV]
 exact this
theorem m_.oneA(o:lV S lt)(t:m_ S lt a b)(m:ip lt a.toList b.toList out.toList ia ib)(ha:ia < a.size)(h: ∀y∈b.toList.drop ib,lt a[ia] y=true):ip lt a.toList b.toList (out.push a[ia]).toList (ia+1) ib:=by
 have:=m.pushA (k:=1) (by rw [ak]; omega) t.sa fun x hx y hy=>by
  rw [take_one (HQ a ha)]at hx
  rcases aK.mp hx with rfl
  exact h y hy
 rw [take_one (HQ a ha)]at this
 rw [iV]
 exact this
end
def LD(lt:Kd->Kd->Bool)(a b:Array Kd)(n:Nat)(c:Option (Array Kd)×Array Kd×Nat×Nat×Nat×Nat×Nat):Prop:=
 ∃out ia ib mg ac bc,c=(none,out,ia,ib,mg,ac,bc)/\ip lt a.toList b.toList out.toList ia ib/\ib < b.size/\ia+1 < a.size/\n<=ia+ib
def MV(lt:Kd->Kd->Bool)(a b:Array Kd)(n:Nat)(c:Option (Array Kd)×Array Kd×Nat×Nat×Nat×Nat×Nat):Prop:=
 (∃r rest,c=(some r,rest)/\Res lt a b r)\/LD lt a b n c
def LU(lt:Kd->Kd->Bool)(a b:Array Kd)(n:Nat)(L:Prop):ForInStep (Option (Array Kd)×Array Kd×Nat×Nat×Nat×Nat×Nat)->Prop
 | .done c=>L/\MV lt a b n c
 | .yield c=>L/\LD lt a b n c
set_option maxHeartbeats 4000000 in
theorem xY{a b:Array Kd}{Q:Array Kd->cb->Prop}(o:lV S lt)(c:sj prog w A s κ S lt)(hk:kindOf st=κ)(t:m_ S lt a b)
  (h: ∀(res:Array Kd) (st':cb),gc st st'->Res lt a b res->Q res st'):wpS (model prog w) A E s (Fb a b) Q st:=by
 have na:=t.na
 have nb:=t.nb
 have m0:ip lt a.toList b.toList (#[b[0]]:Array Kd).toList 0 1:=by
  have:ip lt a.toList b.toList [] 0 0:=⟨bW _,bW _,cR _,fk,fun x hx=>by cases hx⟩
  exact m_.oneB (out:= #[]) o t this nb t.fst
 refine aE (qw (c7 ⟨rfl, ?_⟩))
 refine aE (cN (at_ b nb) ?_)
 refine b_ (fun e=> ?_) fun e1=> ?_
 ·have e:(1==b.size)=true:=e
  exact aJ (h _ _ (.refl _) (t.doneB m0 (.inl (by have:=beq_iff_eq.mp e; omega))))
 have e1: ¬1=b.size:=fun z=>e1 (beq_iff_eq.mpr z)
 refine b_ (fun e=> ?_) fun e2=> ?_
 ·have e:(0+1==a.size)=true:=e
  exact aJ (h _ _ (.refl _) (t.lastA m0 (by have:=beq_iff_eq.mp e; omega)))
 have e2: ¬0+1=a.size:=fun z=>e2 (beq_iff_eq.mpr z)
 refine aE (mw ?_)
 refine aE (eG (c0 (I:=fun x c st'=>gc st st'/\ ∃out ia ib mg,c=(none,out,ia,ib,mg)/\ip lt a.toList b.toList out.toList ia ib/\ib < b.size/\ia+1 < a.size/\x+1<=ia+ib)
   (Q:=fun c st'=> ∃r rest,c=(some r,rest)/\gc st st'/\Res lt a b r) ?_ ?_ ⟨.refl _,_,0,1,_,rfl,m0,by omega,by omega,by omega⟩) ?_)
 ·rintro x c st1 _ hx ⟨L1,out,ia,ib,mg,rfl,m,hb1,ha1,hp1⟩
  have k1:kindOf st1=κ:=L1.1.trans hk
  refine aE (eG (c0 (I:=fun y c st'=>st'=st1/\ ∃out' ia' ib' ac bc,c=(none,out',ia',ib',ac,bc)/\ip lt a.toList b.toList out'.toList ia' ib'/\ib' < b.size/\ia'+1 < a.size/\y+(ia+ib)<=ia'+ib')
   (Q:=fun c st'=>st'=st1/\((∃r rest,c=(some r,rest)/\Res lt a b r)\/ ∃out' ia' ib' ac bc,c=(none,out',ia',ib',ac,bc)/\ip lt a.toList b.toList out'.toList ia' ib'/\ib' < b.size/\ia'+1 < a.size/\ia+ib+1<=ia'+ib')) ?_ ?_ ⟨rfl,out,ia,ib,_,_,rfl,m,hb1,ha1,by omega⟩) ?_)
  ·rintro y c st' _ hy ⟨rfl,out',ia',ib',ac,bc,rfl,m',hb',ha',hp'⟩
   have ha0:ia' < a.size:=by omega
   refine aE (cN (at_ b hb') ?_)
   refine aE (cN (at_ a ha0) ?_)
   refine aE (q9 c k1 (t.gb hb') (t.ga ha0) ?_)
   cases eq:lt b[ib'] a[ia']with
   | true=>
    have m2:=t.oneB o m' hb' fun y hy=>above o t.sa (HQ a ha0) eq hy
    refine aE (cN (at_ b hb') ?_)
    refine b_ (fun e=> ?_) fun e=> ?_
    ·have e:(ib'+1==b.size)=true:=e
     exact aJ ⟨rfl, .inl ⟨_,_,rfl,t.doneB (ia:=ia') (ib:=ib'+1) m2 (.inl (by have:=beq_iff_eq.mp e; omega))⟩⟩
    ·have e: ¬ib'+1=b.size:=fun z=>e (beq_iff_eq.mpr z)
     refine b_ (fun e3=>aJ ?_) fun e3=>aJ ?_
     ·exact⟨rfl, .inr ⟨_,ia',ib'+1,_,_,rfl,m2,by omega,by omega,by omega⟩⟩
     ·exact⟨rfl,_,ia',ib'+1,_,_,rfl,m2,by omega,by omega,by omega⟩
   | false=>
    have eq2:=o.tot _ _ (t.gb hb') (t.ga ha0) (fun z=>t.nab ha0 hb' z.symm) eq
    have m2:=t.oneA o m' ha0 fun y hy=>above o t.sb (HQ b hb') eq2 hy
    refine aE (cN (at_ a ha0) ?_)
    refine b_ (fun e=> ?_) fun e=> ?_
    ·have e:(ia'+1+1==a.size)=true:=e
     exact aJ ⟨rfl, .inl ⟨_,_,rfl,t.lastA (ia:=ia'+1) (ib:=ib') m2 (by have:=beq_iff_eq.mp e; omega)⟩⟩
    ·have e: ¬ia'+1+1=a.size:=fun z=>e (beq_iff_eq.mpr z)
     refine b_ (fun e3=>aJ ?_) fun e3=>aJ ?_
     ·exact⟨rfl, .inr ⟨_,ia'+1,ib',_,_,rfl,m2,by omega,by omega,by omega⟩⟩
     ·exact⟨rfl,_,ia'+1,ib',_,_,rfl,m2,by omega,by omega,by omega⟩
  ·rintro c st' ⟨rfl,out',ia',ib',ac,bc,rfl,m',hb',ha',hp'⟩
   exact⟨rfl, .inr ⟨_,ia',ib',_,_,rfl,m',hb',ha',by omega⟩⟩
  ·rintro c st' ⟨rfl,⟨r,rest,rfl,hr⟩ | ⟨out1,ia1,ib1,ac1,bc1,rfl,m1,hb2,ha2,hp2⟩⟩
   ·exact aJ ⟨_,_,rfl,L1,hr⟩
   ·refine aE (qw (c7 ⟨rfl, ?_⟩))
    refine aE (eG (c0 (I:=fun y c st'=>gc st st'/\LD lt a b (ia1+ib1) c)
     (Q:=fun c st'=>gc st st'/\MV lt a b (ia1+ib1) c) ?_ ?_ ⟨L1,_,_,_,_,_,_,rfl,m1,hb2,ha2,ay _⟩) ?_)
    ·rintro y c st' _ hy ⟨L',out',ia',ib',mg',ac,bc,rfl,m',hb',ha',hp'⟩
     have ha0:ia' < a.size:=by omega
     extract_lets v1 v2 v3 v4 v5 v6 v7 v8 v9 v10 v11 v12 jp v14
     have q2:out'=v2:=rfl
     have q4:ia'=v4:=rfl
     have q6:ib'=v6:=rfl
     have q11:bc=v11:=rfl
     have q12:ib'+1=v12:=rfl
     clear_value v2 v4 v6 v11 v12
     subst q2 q4 q6 q11 q12
     have J: ∀g,wpS (model prog w) A E s (jp () g) (fun r st2=>LU lt a b (ia1+ib1) (gc st st2) r) st':=fun g=>by
      refine aE (lC fun st3 L3=> ?_)
      have L3:=L'.trans L3
      have k3:kindOf st3=κ:=L3.1.trans hk
      refine aE (cN (at_ b hb') ?_)
      refine aE (iI (g:=fun i=>a.getD (ia'+i) b[ib']) o c k3 (fun i hi=> ?_) (fun i hi=> ?_) (fun i hi=> ?_) (t.gb hb') (fun i j hij hj=> ?_) (by omega) fun k hk0 g1 g2=> ?_)
      ·have:ia'+i < a.size:=by omega
       simp [this]
      ·have:ia'+i < a.size:=by omega
       simpa [this]using t.ga this
      ·have:ia'+i < a.size:=by omega
       simpa [this]using t.nab this hb'
      ·have h1:ia'+i < a.size:=by omega
       have h2:ia'+j < a.size:=by omega
       simpa [h1,h2]using t.upA (show ia'+i < ia'+j by omega) h2
      have m3:ip lt a.toList b.toList (out' ++ a.extract ia' (ia'+k)).toList (ia'+k) ib':=by
       rw [cv,wc]
       refine m'.pushA (by rw [ak]; omega) t.sa fun x hx y hy=> ?_
       obtain⟨j,j1,j2,hj,rfl⟩:=AR hx
       have z:=g1 (j - ia') (by omega)
       have e:ia'+(j - ia')=j:=by omega
       rw [e]at z
       have z:lt a[j] b[ib']=true:=by simpa [hj]using z
       exact above o t.sb (HQ b hb') z hy
      have u3: ∀y∈a.toList.drop (ia'+k),lt b[ib'] y=true:=fun y hy=>by
       obtain⟨j,j1,hj,rfl⟩:=kB hy
       have z:=g2 (j - ia') (by omega) (by omega)
       have e:ia'+(j - ia')=j:=by omega
       rw [e]at z
       have z:lt a[j] b[ib']=false:=by simpa [hj]using z
       exact o.tot _ _ (t.ga hj) (t.gb hb') (t.nab hj hb') z
      dsimp -zeta only
      extract_lets ac2 jp2 out2 ia2
      have J2: ∀(out3:Array Kd) (ia3:Nat),ip lt a.toList b.toList out3.toList ia3 ib'->ia3+1 < a.size->ia'<=ia3->(∀y∈a.toList.drop ia3,lt b[ib'] y=true)->wpS (model prog w) A E s (jp2 () out3 ia3) (fun r st2=>LU lt a b (ia1+ib1) (gc st st2) r) st3:=fun out3 ia3 m3 h3 l3 u3=>by
       have m4:=t.oneB o m3 hb' u3
       have ha3:ia3 < a.size:=by omega
       refine aE (cN (at_ b hb') ?_)
       refine b_ (fun e=> ?_) fun e=> ?_
       ·have e:(ib'+1==b.size)=true:=e
        exact aJ ⟨L3, .inl ⟨_,_,rfl,t.doneB (ia:=ia3) (ib:=ib'+1) m4 (.inl (by have:=beq_iff_eq.mp e; omega))⟩⟩
       have e: ¬ib'+1=b.size:=fun z=>e (beq_iff_eq.mpr z)
       refine aE (cN (at_ a ha3) ?_)
       refine aE (iI (g:=fun i=>b.getD (ib'+1+i) a[ia3]) o c k3 (fun i hi=> ?_) (fun i hi=> ?_) (fun i hi=> ?_) (t.ga ha3) (fun i j hij hj=> ?_) (by omega) fun k2 hk2 r1 r2=> ?_)
       ·have:ib'+1+i < b.size:=by omega
        simp [this]
       ·have:ib'+1+i < b.size:=by omega
        simpa [this]using t.gb this
       ·have:ib'+1+i < b.size:=by omega
        simpa [this]using fun z=>t.nab ha3 this (Eq.symm z)
       ·have h1:ib'+1+i < b.size:=by omega
        have h2:ib'+1+j < b.size:=by omega
        simpa [h1,h2]using t.upB (show ib'+1+i < ib'+1+j by omega) h2
       have m5:ip lt a.toList b.toList (out3.push b[ib'] ++ b.extract (ib'+1) (ib'+1+k2)).toList ia3 (ib'+1+k2):=by
        rw [cv,wc]
        refine m4.pushB (by rw [ak]; omega) t.sb fun x hx y hy=> ?_
        obtain⟨j,j1,j2,hj,rfl⟩:=AR hx
        have z:=r1 (j - (ib'+1)) (by omega)
        have e:ib'+1+(j - (ib'+1))=j:=by omega
        rw [e]at z
        have z:lt b[j] a[ia3]=true:=by simpa [hj]using z
        exact above o t.sa (HQ a ha3) z hy
       have u5: ∀y∈b.toList.drop (ib'+1+k2),lt a[ia3] y=true:=fun y hy=>by
        obtain⟨j,j1,hj,rfl⟩:=kB hy
        have z:=r2 (j - (ib'+1)) (by omega) (by omega)
        have e:ib'+1+(j - (ib'+1))=j:=by omega
        rw [e]at z
        have z:lt b[j] a[ia3]=false:=by simpa [hj]using z
        exact o.tot _ _ (t.gb hj) (t.ga ha3) (fun z=>t.nab ha3 hj z.symm) z
       dsimp -zeta only
       extract_lets bc2 ia6 jp3 out4 ib4
       have J3: ∀(out5:Array Kd) (ib5:Nat),ip lt a.toList b.toList out5.toList ia3 ib5->ib5 < b.size->ib'+1<=ib5->(∀y∈b.toList.drop ib5,lt a[ia3] y=true)->wpS (model prog w) A E s (jp3 () out5 ib5) (fun r st2=>LU lt a b (ia1+ib1) (gc st st2) r) st3:=fun out5 ib5 m5 h5 l5 u5=>by
        have m6:=t.oneA o m5 ha3 u5
        refine aE (cN (at_ a ha3) ?_)
        refine b_ (fun e=> ?_) fun e=> ?_
        ·have e:(ia3+1+1==a.size)=true:=e
         exact aJ ⟨L3, .inl ⟨_,_,rfl,t.lastA (ia:=ia3+1) (ib:=ib5) m6 (by have:=beq_iff_eq.mp e; omega)⟩⟩
        ·have e: ¬ia3+1+1=a.size:=fun z=>e (beq_iff_eq.mpr z)
         refine b_ (fun _=>aJ ?_) fun _=>aJ ?_
         ·exact⟨L3, .inr ⟨_,ia3+1,ib5,_,_,_,rfl,m6,h5,by omega,by omega⟩⟩
         ·exact⟨L3,_,ia3+1,ib5,_,_,_,rfl,m6,h5,by omega,by omega⟩
       refine b_ (fun e2=> ?_) fun e2=> ?_
       ·refine b_ (fun e3=> ?_) fun e3=> ?_
        ·have e3:(ib'+1+k2==b.size)=true:=e3
         exact aJ ⟨L3, .inl ⟨_,_,rfl,t.doneB (ia:=ia3) (ib:=ib'+1+k2) m5 (.inl (by have:=beq_iff_eq.mp e3; omega))⟩⟩
        ·have e3: ¬ib'+1+k2=b.size:=fun z=>e3 (beq_iff_eq.mpr z)
         exact J3 _ _ m5 (by omega) (by omega) u5
       ·have z:k2=0:=by omega
        subst z
        exact J3 _ _ m4 (by omega) (by omega) u5
      refine b_ (fun e2=> ?_) fun e2=> ?_
      ·refine b_ (fun e3=> ?_) fun e3=> ?_
       ·have e3:(ia'+k+1==a.size)=true:=e3
        exact aJ ⟨L3, .inl ⟨_,_,rfl,t.lastA (ia:=ia'+k) (ib:=ib') m3 (by have:=beq_iff_eq.mp e3; omega)⟩⟩
       ·have e3: ¬ia'+k+1=a.size:=fun z=>e3 (beq_iff_eq.mpr z)
        refine b_ (fun e4=> ?_) fun e4=> ?_
        ·have e4:(ia'+k==a.size)=true:=e4
         exact aJ ⟨L3, .inl ⟨_,_,rfl,t.doneB (ia:=ia'+k) (ib:=ib') m3 (.inr (by have:=beq_iff_eq.mp e4; omega))⟩⟩
        ·have e4: ¬ia'+k=a.size:=fun z=>e4 (beq_iff_eq.mpr z)
         exact J2 _ _ m3 (by omega) (by omega) u3
      ·have z:k=0:=by omega
       subst z
       exact J2 _ _ m' (by omega) (by omega) u3
     exact b_ (fun _=>eG (J _) fun r st2 z=>by cases r <;> exact z) fun _=>eG (J _) fun r st2 z=>by cases r <;> exact z
    ·rintro c st' ⟨L',out',ia',ib',mg',ac,bc,rfl,m',hb',ha',hp'⟩
     exact⟨L', .inr ⟨_,_,_,_,_,_,rfl,m',hb',ha',hp'⟩⟩
    ·rintro c st' ⟨L',⟨r,rest,rfl,hr⟩ | ⟨out',ia',ib',mg',ac,bc,rfl,m',hb',ha',hp'⟩⟩
     ·exact aJ ⟨_,_,rfl,L',hr⟩
     ·refine aE (lC fun st3 L3=>aJ ?_)
      exact⟨L'.trans L3,_,ia',ib',_,rfl,m',hb',ha',by omega⟩
 ·rintro c st' ⟨L',out,ia,ib,mg,rfl,m,hb1,ha1,hp1⟩
  omega
 ·rintro c st' ⟨r,rest,rfl,L',hr⟩
  exact aJ (h r st' L' hr)
end
structure iq(lt:Kd->Kd->Bool)(a b out:List Kd)(na nb:Nat):Prop where
 ha:na<=a.length
 hb:nb<=b.length
 perm:out.Perm (a.drop na ++ b.drop nb)
 yU:kC lt out
 hi: ∀x,(x∈a.take na\/x∈b.take nb)-> ∀y∈out,lt x y=true
section
variable {lt:Kd->Kd->Bool}{a b out:List Kd}{na nb k:Nat}
theorem iq.swap(m:iq lt a b out na nb):iq lt b a out nb na:=⟨m.hb,m.ha,m.perm.trans cK,m.yU,fun x hx y hy=>m.hi x hx.symm y hy⟩
theorem DS(a:List Kd){i n:Nat}(h:i<=n):a.take n=a.take i ++ (a.take n).drop i:=by
 have:=aX i (a.take n)
 rw [List.take_take,IQ h]at this
 exact this.symm
theorem B4(a:List Kd){i n:Nat}(h:i<=n)(hn:n<=a.length):a.drop i=(a.take n).drop i ++ a.drop n:=by
 have e:a=a.take n ++ a.drop n:=(aX n a).symm
 conv=>lhs; rw [e]
 exact tw (by rw [br]; omega)
theorem iq.preA(m:iq lt a b out na nb)(hk:k<=na)(sa:kC lt a)(h: ∀x∈(a.take na).drop k, ∀y∈b.take nb,lt y x=true):iq lt a b ((a.take na).drop k ++ out) k nb:=by
 have sd:kC lt (a.take na):=cV (k7 na a) sa
 have cut:=DS a hk
 have sd':=sd
 rw [cut]at sd'
 have c:=bS.mp sd'
 have mm: ∀x,x∈(a.take na).drop k->x∈a.take na:=fun x hx=>gQ hx
 refine⟨bj hk m.ha,m.hb, ?_,bS.mpr ⟨c.2.1,m.yU,fun x hx y hy=>m.hi x (.inl (mm x hx)) y hy⟩,fun x hx y hy=> ?_⟩
 ·rw [B4 a hk m.ha,aP]
  exact dG _ m.perm
 ·rcases bI.mp hy with hy | hy
  ·rcases hx with hx | hx
   ·exact c.2.2 x hx y hy
   ·exact h y hy x hx
  ·exact m.hi x (hx.imp (fun z=>by rw [cut]; exact fh _ z) id) y hy
theorem iq.preB(m:iq lt a b out na nb)(hk:k<=nb)(sb:kC lt b)(h: ∀x∈(b.take nb).drop k, ∀y∈a.take na,lt y x=true):iq lt a b ((b.take nb).drop k ++ out) na k:=(m.swap.preA hk sb h).swap
theorem iq.finA(m:iq lt a b out na nb)(sa:kC lt a)(sb:kC lt b)(h: ∀x∈a.take na, ∀y∈b.take nb,lt x y=true):(a.take na ++ b.take nb ++ out).Perm (a ++ b)/\kC lt (a.take na ++ b.take nb ++ out):=by
 constructor
 ·have e1:(a ++ b).Perm ((a.take na ++ a.drop na) ++ (b.take nb ++ b.drop nb)):=by rw [aX,aX]
  refine jP ?_ e1.symm
  refine(m.perm.append_left _).trans ?_
  rw [aP,aP]
  refine dG _ ?_
  rw [<-aP, <-aP]
  exact cK.append_right _
 ·refine bS.mpr ⟨bS.mpr ⟨cV (k7 na a) sa,cV (k7 nb b) sb,h⟩,m.yU,fun x hx y hy=>m.hi x (bI.mp hx) y hy⟩
theorem iq.finB(m:iq lt a b out na nb)(sa:kC lt a)(sb:kC lt b)(h: ∀x∈b.take nb, ∀y∈a.take na,lt x y=true):(b.take nb ++ a.take na ++ out).Perm (a ++ b)/\kC lt (b.take nb ++ a.take na ++ out):=
 let⟨p,q⟩:=m.swap.finA sb sa h; ⟨p.trans cK,q⟩
end
section
variable {prog:av}{w:World}{A:bC}{E:Value->ai->Prop}{s:ai}{κ:jv}{S:Kd->Prop}{lt:Kd->Kd->Bool}{st:cb}
theorem qO(a:Array Kd)(n:Nat):(a.extract 0 n).toList=a.toList.take n:=by
 rw [ju,kR,Nat.sub_zero,n8]
theorem vW(a:Array Kd)(i n:Nat):(a.extract i n).toList=(a.toList.take n).drop i:=by
 rw [ju,kR,List.drop_take]
theorem iZ{a:Array Kd}{i:Nat}{y:Kd}(h:y∈a.toList.take i): ∃j,j < i/\ ∃hj:j < a.size,y=a[j]:=by
 obtain⟨k,hk,e⟩:=aN.mp h
 rw [br,ak]at hk
 refine⟨k,by omega,by omega, ?_⟩
 rw [<-e,fy]
 simp
theorem mem_mid{a:Array Kd}{i n:Nat}{y:Kd}(h:y∈(a.toList.take n).drop i): ∃j,i<=j/\j < n/\ ∃hj:j < a.size,y=a[j]:=by
 obtain⟨m,hm,e⟩:=aN.mp h
 rw [bL,br,ak]at hm
 refine⟨i+m,by omega,by omega,by omega, ?_⟩
 rw [<-e,dA,fy]
 simp
section
variable {a b out:Array Kd}{na nb:Nat}
theorem qF{i:Nat}(h:i < a.size):(a.toList.take (i+1)).drop i= [a[i]]:=by
 rw [ft,HQ a h,tw (by rw [br,ak]; omega)]
 rw [eK (by rw [br,ak]; omega)]
 rfl
theorem Fp(o:lV S lt)(t:m_ S lt a b){i n:Nat}{y z:Kd}(hi:i < a.size)(hn:n<=i+1)(hy:y∈a.toList.take n)(h:lt a[i] z=true):lt y z=true:=by
 obtain⟨j,j1,hj,rfl⟩:=iZ hy
 by_cases e:j=i
 ·subst e; exact h
 ·exact o.tr _ _ _ (t.upA (show j < i by omega) hi) h
theorem E6(o:lV S lt)(t:m_ S lt a b){i n:Nat}{y z:Kd}(hi:i < b.size)(hn:n<=i+1)(hy:y∈b.toList.take n)(h:lt b[i] z=true):lt y z=true:=by
 obtain⟨j,j1,hj,rfl⟩:=iZ hy
 by_cases e:j=i
 ·subst e; exact h
 ·exact o.tr _ _ _ (t.upB (show j < i by omega) hi) h
theorem m_.done0(t:m_ S lt a b)(m:iq lt a.toList b.toList out.toList.reverse na nb)(h:na=0\/nb=0):Res lt a b (a.extract 0 na ++ b.extract 0 nb ++ out.reverse):=by
 have:=m.finA t.sa t.sb fun x hx y hy=>by
  obtain⟨j,h1,h2,_⟩:=iZ hx
  obtain⟨j',h1',h2',_⟩:=iZ hy
  omega
 unfold Res
 rw [cv,cv,qO,qO,om]
 exact this
theorem m_.fstB(t:m_ S lt a b)(m:iq lt a.toList b.toList out.toList.reverse na nb)(h:nb=1):Res lt a b (b.extract 0 nb ++ a.extract 0 na ++ out.reverse):=by
 have:=m.finB t.sa t.sb fun x hx y hy=>by
  obtain⟨j,h1,h2,rfl⟩:=iZ hx
  obtain⟨j',h1',h2',rfl⟩:=iZ hy
  have e:j=0:=by omega
  subst e
  exact t.fst a[j'] (by simp)
 unfold Res
 rw [cv,cv,qO,qO,om]
 exact this
theorem m_.preB1(t:m_ S lt a b)(m:iq lt a.toList b.toList out.toList.reverse na (nb+1))(hb:nb < b.size)(h: ∀y∈a.toList.take na,lt y b[nb]=true):iq lt a.toList b.toList (out.push b[nb]).toList.reverse na nb:=by
 have:=m.preB (k:=nb) (by omega) t.sb fun x hx y hy=>by
  rw [qF hb]at hx
  rcases aK.mp hx with rfl
  exact h y hy
 rw [qF hb]at this
 rw [iV,oZ]
 exact this
theorem m_.preA1(t:m_ S lt a b)(m:iq lt a.toList b.toList out.toList.reverse (na+1) nb)(ha:na < a.size)(h: ∀y∈b.toList.take nb,lt y a[na]=true):iq lt a.toList b.toList (out.push a[na]).toList.reverse na nb:=by
 have:=m.preA (k:=na) (by omega) t.sa fun x hx y hy=>by
  rw [qF ha]at hx
  rcases aK.mp hx with rfl
  exact h y hy
 rw [qF ha]at this
 rw [iV,oZ]
 exact this
end
def Mh(lt:Kd->Kd->Bool)(a b:Array Kd)(n:Nat)(c:Option (Array Kd)×Nat×Nat×Array Kd×Nat×Nat×Nat):Prop:=
 ∃na nb out mg ac bc,c=(none,na+1,nb+2,out,mg,ac,bc)/\iq lt a.toList b.toList out.toList.reverse (na+1) (nb+2)/\na+nb<=n
def MT(lt:Kd->Kd->Bool)(a b:Array Kd)(n:Nat)(c:Option (Array Kd)×Nat×Nat×Array Kd×Nat×Nat×Nat):Prop:=
 (∃r rest,c=(some r,rest)/\Res lt a b r)\/Mh lt a b n c
def LQ(lt:Kd->Kd->Bool)(a b:Array Kd)(n:Nat)(L:Prop):ForInStep (Option (Array Kd)×Nat×Nat×Array Kd×Nat×Nat×Nat)->Prop
 | .done c=>L/\MT lt a b n c
 | .yield c=>L/\Mh lt a b n c
set_option maxHeartbeats 4000000 in
theorem yz{a b:Array Kd}{Q:Array Kd->cb->Prop}(o:lV S lt)(c:sj prog w A s κ S lt)(hk:kindOf st=κ)(t:m_ S lt a b)
  (h: ∀(res:Array Kd) (st':cb),gc st st'->Res lt a b res->Q res st'):wpS (model prog w) A E s (C8 a b) Q st:=by
 have na0:=t.na
 have nb0:=t.nb
 obtain⟨a1,ea⟩: ∃a1,a.size=a1+1:=⟨a.size - 1,by omega⟩
 obtain⟨b1,eb⟩: ∃b1,b.size=b1+1:=⟨b.size - 1,by omega⟩
 have hla:a1 < a.size:=by omega
 have m0:iq lt a.toList b.toList (#[a[a1]]:Array Kd).toList.reverse a1 (b1+1):=by
  have:iq lt a.toList b.toList [] (a1+1) (b1+1):=⟨by rw [ak]; omega,by rw [ak]; omega,by rw [eK (by rw [ak]; omega),eK (by rw [ak]; omega)]; exact cR _,fk,fun x hx y hy=>by cases hy⟩
  refine m_.preA1 (out:= #[]) t this hla fun y hy=> ?_
  have:=t.lst y (gP hy)
  have e:a.size - 1=a1:=by omega
  simpa [e]using this
 refine aE (qw (c7 ⟨rfl, ?_⟩))
 have e0:a[a.size - 1]? =some a[a1]:=by rw [show a.size - 1=a1 by omega]; exact at_ a hla
 refine aE (cN e0 ?_)
 have ea':a.size - 1=a1:=by omega
 rw [ea',eb]
 refine b_ (fun e=> ?_) fun e1=> ?_
 ·have e:(a1==0)=true:=e
  exact aJ (h _ _ (.refl _) (t.done0 m0 (.inl (beq_iff_eq.mp e))))
 have e1: ¬a1=0:=fun z=>e1 (beq_iff_eq.mpr z)
 refine b_ (fun e=> ?_) fun e2=> ?_
 ·have e:(b1+1==1)=true:=e
  exact aJ (h _ _ (.refl _) (t.fstB m0 (beq_iff_eq.mp e)))
 have e2: ¬b1+1=1:=fun z=>e2 (beq_iff_eq.mpr z)
 refine aE (mw ?_)
 refine aE (eG (c0 (I:=fun x c st'=>gc st st'/\ ∃na nb out mg,c=(none,na+1,nb+2,out,mg)/\iq lt a.toList b.toList out.toList.reverse (na+1) (nb+2)/\x+na+nb+4<=a.size+(b1+1))
   (Q:=fun c st'=> ∃r rest,c=(some r,rest)/\gc st st'/\Res lt a b r) ?_ ?_ ⟨.refl _,a1 - 1,b1 - 1,_,_,by rw [show a1 - 1+1=a1 by omega,show b1 - 1+2=b1+1 by omega],by rw [show a1 - 1+1=a1 by omega,show b1 - 1+2=b1+1 by omega]; exact m0,by omega⟩) ?_)
 ·rintro x c st1 _ hx ⟨L1,na,nb,out,mg,rfl,m,hp1⟩
  have k1:kindOf st1=κ:=L1.1.trans hk
  refine aE (eG (c0 (I:=fun y c st'=>st'=st1/\ ∃na' nb' out' ac bc,c=(none,na'+1,nb'+2,out',ac,bc)/\iq lt a.toList b.toList out'.toList.reverse (na'+1) (nb'+2)/\y+(na'+nb')<=na+nb)
   (Q:=fun c st'=>st'=st1/\((∃r rest,c=(some r,rest)/\Res lt a b r)\/ ∃na' nb' out' ac bc,c=(none,na'+1,nb'+2,out',ac,bc)/\iq lt a.toList b.toList out'.toList.reverse (na'+1) (nb'+2)/\na'+nb'+1<=na+nb)) ?_ ?_ ⟨rfl,na,nb,out,_,_,rfl,m,by omega⟩) ?_)
  ·rintro y c st' _ hy ⟨rfl,na',nb',out',ac,bc,rfl,m',hp'⟩
   have ha0:na' < a.size:=by have:=m'.ha; rw [ak]at this; omega
   have hb0:nb'+1 < b.size:=by have:=m'.hb; rw [ak]at this; omega
   refine aE (cN (at_ b hb0) ?_)
   refine aE (cN (at_ a ha0) ?_)
   refine aE (q9 c k1 (t.gb hb0) (t.ga ha0) ?_)
   cases eq:lt b[nb'+1] a[na']with
   | true=>
    have m2:=t.preA1 m' ha0 fun y hy=>E6 o t hb0 (by omega) hy eq
    refine aE (cN (at_ a ha0) ?_)
    refine b_ (fun e=> ?_) fun e=> ?_
    ·have e:(na'==0)=true:=e
     exact aJ ⟨rfl, .inl ⟨_,_,rfl,t.done0 (na:=na') (nb:=nb'+2) m2 (.inl (beq_iff_eq.mp e))⟩⟩
    ·have e: ¬na'=0:=fun z=>e (beq_iff_eq.mpr z)
     obtain⟨n2,rfl⟩: ∃n2,na'=n2+1:=⟨na' - 1,by omega⟩
     refine b_ (fun e3=>aJ ?_) fun e3=>aJ ?_
     ·exact⟨rfl, .inr ⟨n2,nb',_,_,_,rfl,m2,by omega⟩⟩
     ·exact⟨rfl,n2,nb',_,_,_,rfl,m2,by omega⟩
   | false=>
    have eq2:=o.tot _ _ (t.gb hb0) (t.ga ha0) (fun z=>t.nab ha0 hb0 z.symm) eq
    have m2:=t.preB1 (nb:=nb'+1) m' hb0 fun y hy=>Fp o t ha0 (by omega) hy eq2
    refine aE (cN (at_ b hb0) ?_)
    refine b_ (fun e=> ?_) fun e=> ?_
    ·have e:(nb'+1==1)=true:=e
     exact aJ ⟨rfl, .inl ⟨_,_,rfl,t.fstB (na:=na'+1) (nb:=nb'+1) m2 (beq_iff_eq.mp e)⟩⟩
    ·have e: ¬nb'+1=1:=fun z=>e (beq_iff_eq.mpr z)
     obtain⟨n2,rfl⟩: ∃n2,nb'=n2+1:=⟨nb' - 1,by omega⟩
     refine b_ (fun e3=>aJ ?_) fun e3=>aJ ?_
     ·exact⟨rfl, .inr ⟨na',n2,_,_,_,rfl,m2,by omega⟩⟩
     ·exact⟨rfl,na',n2,_,_,_,rfl,m2,by omega⟩
  ·rintro c st' ⟨rfl,na',nb',out',ac,bc,rfl,m',hp'⟩
   exact⟨rfl, .inr ⟨na',nb',_,_,_,rfl,m',by omega⟩⟩
  ·rintro c st' ⟨rfl,⟨r,rest,rfl,hr⟩ | ⟨na1,nb1,out1,ac1,bc1,rfl,m1,hp2⟩⟩
   ·exact aJ ⟨_,_,rfl,L1,hr⟩
   ·refine aE (qw (c7 ⟨rfl, ?_⟩))
    refine aE (eG (c0 (I:=fun y c st'=>gc st st'/\Mh lt a b (na1+nb1) c)
     (Q:=fun c st'=>gc st st'/\MT lt a b (na1+nb1) c) ?_ ?_ ⟨L1,na1,nb1,_,_,_,_,rfl,m1,ay _⟩) ?_)
    ·rintro y c st' _ hy ⟨L',na',nb',out',mg',ac,bc,rfl,m',hp'⟩
     have ha0:na' < a.size:=by have:=m'.ha; rw [ak]at this; omega
     have hb0:nb'+1 < b.size:=by have:=m'.hb; rw [ak]at this; omega
     extract_lets v1 v2 v3 v4 v5 v6 v7 v8 v9 v10 v11 v12 jp v14
     have q2:na'+1=v2:=rfl
     have q4:nb'+2=v4:=rfl
     have q6:out'=v6:=rfl
     have q11:bc=v11:=rfl
     have q12:nb'+1=v12:=rfl
     clear_value v2 v4 v6 v11 v12
     subst q2 q4 q6 q11 q12
     have J: ∀g,wpS (model prog w) A E s (jp () g) (fun r st2=>LQ lt a b (na1+nb1) (gc st st2) r) st':=fun g=>by
      refine aE (lC fun st3 L3=> ?_)
      have L3:=L'.trans L3
      have k3:kindOf st3=κ:=L3.1.trans hk
      refine aE (cN (at_ b hb0) ?_)
      refine aE (iI (g:=fun i=>a.getD i b[nb'+1]) o c k3 (fun i hi=> ?_) (fun i hi=> ?_) (fun i hi=> ?_) (t.gb hb0) (fun i j hij hj=> ?_) (by omega) fun k hk0 g1 g2=> ?_)
      ·have:i < a.size:=by omega
       simp [this]
      ·have:i < a.size:=by omega
       simpa [this]using t.ga this
      ·have:i < a.size:=by omega
       simpa [this]using t.nab this hb0
      ·have h1:i < a.size:=by omega
       have h2:j < a.size:=by omega
       simpa [h1,h2]using t.upA hij h2
      have m3:iq lt a.toList b.toList (out' ++ (a.extract k (na'+1)).reverse).toList.reverse k (nb'+2):=by
       rw [cv,om,oZ,List.reverse_reverse,vW]
       refine m'.preA hk0 t.sa fun x hx y hy=> ?_
       obtain⟨j,j1,j2,hj,rfl⟩:=mem_mid hx
       have z:=g2 j j1 j2
       have z:lt a[j] b[nb'+1]=false:=by simpa [hj]using z
       exact E6 o t hb0 (by omega) hy (o.tot _ _ (t.ga hj) (t.gb hb0) (t.nab hj hb0) z)
      have u3: ∀y∈a.toList.take k,lt y b[nb'+1]=true:=fun y hy=>by
       obtain⟨j,j1,hj,rfl⟩:=iZ hy
       have z:=g1 j j1
       simpa [hj]using z
      dsimp -zeta only
      extract_lets kk ac2 jp2 out2
      have J2: ∀(na3:Nat) (out3:Array Kd),iq lt a.toList b.toList out3.toList.reverse na3 (nb'+2)->1<=na3->na3<=na'+1->(∀y∈a.toList.take na3,lt y b[nb'+1]=true)->wpS (model prog w) A E s (jp2 () na3 out3) (fun r st2=>LQ lt a b (na1+nb1) (gc st st2) r) st3:=fun na3 out3 m3 h3 l3 u3=>by
       have m4:=t.preB1 (nb:=nb'+1) m3 hb0 u3
       obtain⟨p,rfl⟩: ∃p,na3=p+1:=⟨na3 - 1,by omega⟩
       have ha3:p < a.size:=by omega
       refine aE (cN (at_ b hb0) ?_)
       refine b_ (fun e=> ?_) fun e=> ?_
       ·have e:(nb'+1==1)=true:=e
        exact aJ ⟨L3, .inl ⟨_,_,rfl,t.fstB (na:=p+1) (nb:=nb'+1) m4 (beq_iff_eq.mp e)⟩⟩
       have e: ¬nb'+1=1:=fun z=>e (beq_iff_eq.mpr z)
       refine aE (cN (at_ a ha3) ?_)
       refine aE (iI (g:=fun i=>b.getD i a[p]) o c k3 (fun i hi=> ?_) (fun i hi=> ?_) (fun i hi=> ?_) (t.ga ha3) (fun i j hij hj=> ?_) (by omega) fun k2 hk2 r1 r2=> ?_)
       ·have:i < b.size:=by omega
        simp [this]
       ·have:i < b.size:=by omega
        simpa [this]using t.gb this
       ·have:i < b.size:=by omega
        simpa [this]using fun z=>t.nab ha3 this (Eq.symm z)
       ·have h1:i < b.size:=by omega
        have h2:j < b.size:=by omega
        simpa [h1,h2]using t.upB hij h2
       have m5:iq lt a.toList b.toList (out3.push b[nb'+1] ++ (b.extract k2 (nb'+1)).reverse).toList.reverse (p+1) k2:=by
        rw [cv,om,oZ,List.reverse_reverse,vW]
        refine m4.preB hk2 t.sb fun x hx y hy=> ?_
        obtain⟨j,j1,j2,hj,rfl⟩:=mem_mid hx
        have z:=r2 j j1 j2
        have z:lt b[j] a[p]=false:=by simpa [hj]using z
        exact Fp o t ha3 (by omega) hy (o.tot _ _ (t.gb hj) (t.ga ha3) (fun z=>t.nab ha3 hj z.symm) z)
       have u5: ∀y∈b.toList.take k2,lt y a[p]=true:=fun y hy=>by
        obtain⟨j,j1,hj,rfl⟩:=iZ hy
        have z:=r1 j j1
        simpa [hj]using z
       dsimp -zeta only
       extract_lets kk2 bc2 na6 jp3 out4
       have J3: ∀(nb5:Nat) (out5:Array Kd),iq lt a.toList b.toList out5.toList.reverse (p+1) nb5->2<=nb5->nb5<=nb'+1->(∀y∈b.toList.take nb5,lt y a[p]=true)->wpS (model prog w) A E s (jp3 () nb5 out5) (fun r st2=>LQ lt a b (na1+nb1) (gc st st2) r) st3:=fun nb5 out5 m5 h5 l5 u5=>by
        have m6:=t.preA1 m5 ha3 u5
        obtain⟨q,rfl⟩: ∃q,nb5=q+2:=⟨nb5 - 2,by omega⟩
        refine aE (cN (at_ a ha3) ?_)
        refine b_ (fun e=> ?_) fun e=> ?_
        ·have e:(p==0)=true:=e
         exact aJ ⟨L3, .inl ⟨_,_,rfl,t.done0 (na:=p) (nb:=q+2) m6 (.inl (beq_iff_eq.mp e))⟩⟩
        ·have e: ¬p=0:=fun z=>e (beq_iff_eq.mpr z)
         obtain⟨p2,rfl⟩: ∃p2,p=p2+1:=⟨p - 1,by omega⟩
         refine b_ (fun _=>aJ ?_) fun _=>aJ ?_
         ·exact⟨L3, .inr ⟨p2,q,_,_,_,_,rfl,m6,by omega⟩⟩
         ·exact⟨L3,p2,q,_,_,_,_,rfl,m6,by omega⟩
       refine b_ (fun e2=> ?_) fun e2=> ?_
       ·refine b_ (fun e3=> ?_) fun e3=> ?_
        ·have e3:(k2==1)=true:=e3
         exact aJ ⟨L3, .inl ⟨_,_,rfl,t.fstB (na:=p+1) (nb:=k2) m5 (beq_iff_eq.mp e3)⟩⟩
        ·have e3: ¬k2=1:=fun z=>e3 (beq_iff_eq.mpr z)
         refine b_ (fun e4=> ?_) fun e4=> ?_
         ·have e4:(k2==0)=true:=e4
          exact aJ ⟨L3, .inl ⟨_,_,rfl,t.done0 (na:=p+1) (nb:=k2) m5 (.inr (beq_iff_eq.mp e4))⟩⟩
         ·have e4: ¬k2=0:=fun z=>e4 (beq_iff_eq.mpr z)
          exact J3 _ _ m5 (by omega) (by omega) u5
       ·have e2: ¬nb'+1 - k2 > 0:=e2
        have z:k2=nb'+1:=by omega
        subst z
        exact J3 _ _ m4 (by omega) (by omega) u5
      refine b_ (fun e2=> ?_) fun e2=> ?_
      ·refine b_ (fun e3=> ?_) fun e3=> ?_
       ·have e3:(k==0)=true:=e3
        exact aJ ⟨L3, .inl ⟨_,_,rfl,t.done0 (na:=k) (nb:=nb'+2) m3 (.inl (beq_iff_eq.mp e3))⟩⟩
       ·have e3: ¬k=0:=fun z=>e3 (beq_iff_eq.mpr z)
        exact J2 _ _ m3 (by omega) (by omega) u3
      ·have e2: ¬na'+1 - k > 0:=e2
       have z:k=na'+1:=by omega
       subst z
       exact J2 _ _ m' (by omega) (by omega) u3
     exact b_ (fun _=>eG (J _) fun r st2 z=>by cases r <;> exact z) fun _=>eG (J _) fun r st2 z=>by cases r <;> exact z
    ·rintro c st' ⟨L',na',nb',out',mg',ac,bc,rfl,m',hp'⟩
     exact⟨L', .inr ⟨na',nb',_,_,_,_,rfl,m',hp'⟩⟩
    ·rintro c st' ⟨L',⟨r,rest,rfl,hr⟩ | ⟨na',nb',out',mg',ac,bc,rfl,m',hp'⟩⟩
     ·exact aJ ⟨_,_,rfl,L',hr⟩
     ·refine aE (lC fun st3 L3=>aJ ?_)
      exact⟨L'.trans L3,na',nb',_,_,rfl,m',by omega⟩
 ·rintro c st' ⟨L',na,nb,out,mg,rfl,m,hp1⟩
  omega
 ·rintro c st' ⟨r,rest,rfl,L',hr⟩
  exact aJ (h r st' L' hr)
end
theorem ze{pre x rest:List Kd}{arr:Array Kd}(e:arr.toList=pre ++ (x ++ rest)){i:Nat}(h:i < x.length):arr[pre.length+i]? =some x[i]:=by
 rw [<-bz,e,eS (by omega),iF,fb h,ah h]
theorem AE: ∀(l:List Kd) (arr:Array Kd) (sa n:Nat),sa+n+l.length<=arr.size->
  ((l.zipIdx n).foldl (fun a (x:Kd×Nat)=>match x with | (p,j)=>a.setIfInBounds (sa+j) p) arr).toList=arr.toList.take (sa+n) ++ l ++ arr.toList.drop (sa+n+l.length)
 | [],arr,sa,n,h=>by simp
 | x::l,arr,sa,n,h=>by
  rw [aH]at h
  rw [lS,IM]
  dsimp only
  have hs:(arr.setIfInBounds (sa+n) x).size=arr.size:=Array.size_setIfInBounds
  rw [AE l _ sa (n+1) (by rw [hs]; omega),Array.toList_setIfInBounds]
  have hl:sa+n < arr.toList.length:=by rw [ak]; omega
  have e1:(arr.toList.set (sa+n) x).take (sa+(n+1))=arr.toList.take (sa+n) ++ [x]:=by
   rw [<-lH,ft,List.take_set_of_le (ay _),Ah hl]
   rfl
  have e2:(arr.toList.set (sa+n) x).drop (sa+(n+1)+l.length)=arr.toList.drop (sa+n+(l.length+1)):=by
   rw [List.drop_set_of_lt (by omega)]
   congr 1
   omega
  rw [e1,e2,aH]
  simp
section
variable {prog:av}{w:World}{A:bC}{E:Value->ai->Prop}{s:ai}{κ:jv}{S:Kd->Prop}{lt:Kd->Kd->Bool}{st:cb}
theorem Fc(o:lV S lt){x1 x2 y1 y2 m:List Kd}(sx:kC lt (x1 ++ x2))(sy:kC lt (y1 ++ y2))(sm:kC lt m)(pm:m.Perm (x2 ++ y1))(h1: ∀u∈x1, ∀v∈y1 ++ y2,lt u v=true)(h2: ∀u∈x2, ∀v∈y2,lt u v=true):kC lt (x1 ++ m ++ y2):=by
 have a:=bS.mp sx
 have b:=bS.mp sy
 refine bS.mpr ⟨bS.mpr ⟨a.1,sm,fun u hu v hv=> ?_⟩,b.2.1,fun u hu v hv=> ?_⟩
 ·rcases bI.mp (pm.mem_iff.mp hv)with hv | hv
  ·exact a.2.2 u hu v hv
  ·exact h1 u hu v (fh _ hv)
 ·rcases bI.mp hu with hu | hu
  ·exact h1 u hu v (bx _ hv)
  ·rcases bI.mp (pm.mem_iff.mp hu)with hu | hu
   ·exact h2 u hu v hv
   ·exact b.2.2 u hu v hv
theorem vp{x:List Kd}(h:kC lt x){i j:Nat}(hij:i < j)(hj:j < x.length):lt (x[i]'(by omega)) x[j]=true:=cf.mp h i j (by omega) hj hij
set_option maxHeartbeats 4000000 in
theorem xx{i pw pw2:Nat}{pre x y post:List Kd}{Q:Bool->cb->Prop}(o:lV S lt)(c:sj prog w A s κ S lt)(hk:kindOf st=κ)(hf:gS st=none)
  (hi:(ck st)[i]? =some (pre.length,x.length,pw))(hi1:(ck st)[i+1]? =some (pre.length+x.length,y.length,pw2))
  (e:(arrOf st).toList=pre ++ (x ++ (y ++ post)))(hx0:0 < x.length)(hy0:0 < y.length)(sx:kC lt x)(sy:kC lt y)(Sx: ∀u∈x,S u)(Sy: ∀u∈y,S u)(ne: ∀u∈x, ∀v∈y,u≠v)
  (h: ∀(z:List Kd) (st':cb),kindOf st'=κ->gS st'=none->ck st'=((ck st).setIfInBounds i (pre.length,x.length+y.length,pw)).eraseIdxIfInBounds (i+1)->(arrOf st').toList=pre ++ (z ++ post)->z.Perm (x ++ y)->kC lt z->Q true st'):
  wpS (model prog w) A E s (mergeAt' i) Q st:=by
 refine aE (mw ?_)
 rw [hi,hi1]
 refine aE (mx (f:=fun _=>_) ?_)
 have hsb:(arrOf st)[pre.length+x.length]? =some y[0]:=by
  have:=ze (pre:=pre ++ x) (x:=y) (rest:=post) (arr:=arrOf st) (by rw [e]; simp) (i:=0) hy0
  simpa using this
 have hxl: ∀k (hk:k < x.length),(arrOf st)[pre.length+k]? =some x[k]:=fun k hk=>ze e hk
 have hyl: ∀k (hk:k < y.length),(arrOf st)[pre.length+x.length+k]? =some y[k]:=fun k hk=>by
  have:=ze (pre:=pre ++ x) (x:=y) (rest:=post) (arr:=arrOf st) (by rw [e]; simp) hk
  rw [aw]at this
  exact this
 have Sy0:S y[0]:=Sy _ (aR _)
 refine aE (cN hsb ?_)
 refine aE (iI (g:=fun k=>x.getD k y[0]) o c hk (fun k hk=> ?_) (fun k hk=> ?_) (fun k hk=> ?_) Sy0 (fun k j hij hj=> ?_) hx0 fun k hk0 g1 g2=> ?_)
 ·rw [hxl k hk]; simp [hk]
 ·simpa [hk]using Sx _ (aR hk)
 ·simpa [hk]using ne _ (aR hk) _ (aR hy0)
 ·have h1:k < x.length:=by omega
  simpa [h1,hj]using vp sx hij hj
 have g1': ∀u∈x.take k,lt u y[0]=true:=fun u hu=>by
  obtain⟨j,hj,rfl⟩:=aN.mp hu
  rw [br]at hj
  rw [fy]
  have h1:j < x.length:=by omega
  simpa [h1]using g1 j (by omega)
 have g2': ∀u∈x.drop k,lt y[0] u=true:=fun u hu=>by
  obtain⟨j,hj,rfl⟩:=aN.mp hu
  rw [bL]at hj
  rw [dA]
  have h1:k+j < x.length:=by omega
  have z:lt x[k+j] y[0]=false:=by simpa [h1]using g2 (k+j) (by omega) h1
  exact o.tot _ _ (Sx _ (aR h1)) Sy0 (ne _ (aR h1) _ (aR hy0)) z
 have y0le: ∀u,lt u y[0]=true-> ∀v∈y,lt u v=true:=fun u hu v hv=>by
  obtain⟨j,hj,rfl⟩:=aN.mp hv
  by_cases hz:j=0
  ·subst hz; exact hu
  ·exact o.tr _ _ _ hu (vp sy (by omega) hj)
 refine b_ (fun e0=> ?_) fun e0=> ?_
 ·have e0:(x.length - k==0)=true:=e0
  have e0:=beq_iff_eq.mp e0
  refine aJ (h (x ++ y) _ hk hf rfl (by rw [aP]; exact e) (cR _) (bS.mpr ⟨sx,sy,fun u hu v hv=>y0le u (g1' u ?_) v hv⟩))
  rw [dw (by omega)]
  exact hu
 have e0: ¬x.length - k=0:=fun z=>e0 (beq_iff_eq.mpr z)
 have hl:x.length - 1 < x.length:=by omega
 have hsl:(arrOf st)[pre.length+k+(x.length - k) - 1]? =some x[x.length - 1]:=by
  rw [show pre.length+k+(x.length - k) - 1=pre.length+(x.length - 1) by omega]
  exact hxl _ hl
 have Sxl:S x[x.length - 1]:=Sx _ (aR _)
 refine aE (cN hsl ?_)
 refine aE (iI (g:=fun k=>y.getD k x[x.length - 1]) o c hk (fun k hk=> ?_) (fun k hk=> ?_) (fun k hk=> ?_) Sxl (fun k j hij hj=> ?_) (show y.length - 1 < y.length by omega) fun n2 hn2 r1 r2=> ?_)
 ·rw [hyl k hk]; simp [hk]
 ·simpa [hk]using Sy _ (aR hk)
 ·simpa [hk]using fun z=>ne _ (aR hl) _ (aR hk) (Eq.symm z)
 ·have h1:k < y.length:=by omega
  simpa [h1,hj]using vp sy hij hj
 have r1': ∀u∈y.take n2,lt u x[x.length - 1]=true:=fun u hu=>by
  obtain⟨j,hj,rfl⟩:=aN.mp hu
  rw [br]at hj
  rw [fy]
  have h1:j < y.length:=by omega
  simpa [h1]using r1 j (by omega)
 have r2': ∀u∈y.drop n2,lt x[x.length - 1] u=true:=fun u hu=>by
  obtain⟨j,hj,rfl⟩:=aN.mp hu
  rw [bL]at hj
  rw [dA]
  have h1:n2+j < y.length:=by omega
  have z:lt y[n2+j] x[x.length - 1]=false:=by simpa [h1]using r2 (n2+j) (by omega) h1
  exact o.tot _ _ (Sy _ (aR h1)) Sxl (fun z=>ne _ (aR hl) _ (aR h1) z.symm) z
 have xlge: ∀v,lt x[x.length - 1] v=true-> ∀u∈x,lt u v=true:=fun v hv u hu=>by
  obtain⟨j,hj,rfl⟩:=aN.mp hu
  by_cases hz:j=x.length - 1
  ·subst hz; exact hv
  ·exact o.tr _ _ _ (vp sx (show j < x.length - 1 by omega) hl) hv
 refine b_ (fun e1=> ?_) fun e1=> ?_
 ·have e1:(n2==0)=true:=e1
  have e1:=beq_iff_eq.mp e1
  subst e1
  exact aJ (h (x ++ y) _ hk hf rfl (by rw [aP]; exact e) (cR _) (bS.mpr ⟨sx,sy,fun u hu v hv=>xlge v (r2' v hv) u hu⟩))
 have e1: ¬n2=0:=fun z=>e1 (beq_iff_eq.mpr z)
 have ex:((arrOf st).extract (pre.length+k) (pre.length+x.length)).toList=x.drop k:=by
  rw [vW,e]
  have:(pre ++ (x ++ (y ++ post))).take (pre.length+x.length)=pre ++ x:=by
   rw [<-aP,jw (by rw [aw]; omega),dw (by rw [aw]; omega)]
  rw [this,sY,eK (by omega)]
  simp
 have ey:((arrOf st).extract (pre.length+x.length) (pre.length+x.length+n2)).toList=y.take n2:=by
  rw [wc,e]
  have:(pre ++ (x ++ (y ++ post))).drop (pre.length+x.length)=y ++ post:=by
   rw [<-aP,sY,eK (by rw [aw]; omega),aw,jZ]
   rfl
  rw [this,jw hn2]
 generalize hX:(arrOf st).extract (pre.length+k) (pre.length+x.length)=X at ex
 generalize hY:(arrOf st).extract (pre.length+x.length) (pre.length+x.length+n2)=Y at ey
 have szX:X.size=x.length - k:=by rw [<-ak,ex,bL]
 have szY:Y.size=n2:=by rw [<-ak,ey,br]; omega
 have t:m_ S lt X Y:=by
  refine⟨by rw [ex]; exact cV (k9 _ _) sx,by rw [ey]; exact cV (k7 _ _) sy,fun u hu=> ?_,fun u hu=> ?_,fun u hu v hv=> ?_,by omega,by omega,fun u hu=> ?_,fun u hu=> ?_⟩
  ·rw [ex]at hu; exact Sx u (gQ hu)
  ·rw [ey]at hu; exact Sy u (gP hu)
  ·rw [ex]at hu
   rw [ey]at hv
   exact ne u (gQ hu) v (gP hv)
  ·rw [ex]at hu
   have:Y[0]'(by omega)=y[0]:=by
    have q:Y.toList[0]'(by rw [ak]; omega)=(y.take n2)[0]'(by rw [br]; omega):=by simp only [ey]
    rw [fy]at q
    simpa using q
   rw [this]
   exact g2' u hu
  ·rw [ey]at hu
   have:X[X.size - 1]'(by omega)=x[x.length - 1]:=by
    have q:X.toList[X.size - 1]'(by rw [ak]; omega)=(x.drop k)[X.size - 1]'(by rw [bL]; omega):=by simp only [ex]
    rw [dA]at q
    have e3:k+(X.size - 1)=x.length - 1:=by omega
    simp only [e3]at q
    simpa using q
   rw [this]
   exact r1' u hu
 have fin: ∀(res:Array Kd) (st2:cb),gc (setPending st (((ck st).setIfInBounds i (pre.length,x.length+y.length,pw)).eraseIdxIfInBounds (i+1))) st2->Res lt X Y res->
   wpS (model prog w) A E s (do
    modify fun s=>setArr s (res.toList.zipIdx.foldl (fun a (x:Kd×Nat)=>match x with | (p,j)=>a.setIfInBounds (pre.length+k+j) p) (arrOf s))
    let s<-get
    pure (gS s).isNone) Q st2:=fun res st2 L2 hr=>by
  refine aE (mx ?_)
  refine aE (mw ?_)
  have f2:gS st2=none:=L2.2.2.2.trans hf
  have a2:arrOf st2=arrOf st:=L2.2.1
  have hr1:res.toList.Perm (x.drop k ++ y.take n2):=by have:=hr.1; rw [ex,ey]at this; exact this
  have lr:res.toList.length=(x.length - k)+n2:=by rw [hr1.length_eq,aw,bL,br]; omega
  have tot:pre.length+(x.length+(y.length+post.length))=(arrOf st).size:=by rw [<-ak,e]; simp [aw]
  have put:=AE res.toList (arrOf st) (pre.length+k) 0 (by omega)
  show wpS (model prog w) A E s (pure (gS st2).isNone) Q _
  rw [f2]
  refine aJ (h (x.take k ++ res.toList ++ y.drop n2) _ (L2.1.trans hk) f2 L2.2.2.1 ?_ ?_ ?_)
  ·show(res.toList.zipIdx.foldl _ (arrOf st2)).toList=_
   rw [a2]
   refine put.trans ?_
   rw [e,lr]
   have p1:(pre ++ (x ++ (y ++ post))).take (pre.length+k+0)=pre ++ x.take k:=by
    rw [Nat.add_zero,List.take_append,dw (by omega),iF,jw hk0]
   have p2:(pre ++ (x ++ (y ++ post))).drop (pre.length+k+0+(x.length - k+n2))=y.drop n2 ++ post:=by
    rw [show pre.length+k+0+(x.length - k+n2)=pre.length+(x.length+n2) by omega, <-List.drop_drop,sY,eK (ay _),jZ,List.nil_append,n8, <-List.drop_drop,sY,eK (ay _),jZ,List.nil_append,n8,tw hn2]
   rw [p1,p2]
   simp
  ·have:(x ++ y).Perm ((x.take k ++ x.drop k) ++ (y.take n2 ++ y.drop n2)):=by rw [aX,aX]
   refine jP ?_ this.symm
   rw [aP,aP]
   refine dG _ ?_
   rw [<-aP]
   exact hr1.append_right _
  ·refine Fc o (by rw [aX]; exact sx) (by rw [aX]; exact sy) hr.2 hr1 (fun u hu v hv=> ?_) fun u hu v hv=>xlge v (r2' v hv) u (gQ hu)
   rw [aX]at hv
   exact y0le u (g1' u hu) v hv
 refine b_ (fun _=> ?_) fun _=> ?_
 ·exact aE (xY o c hk t fun res st2 L2 hr=>fin res st2 L2 hr)
 ·exact aE (yz o c hk t fun res st2 L2 hr=>fin res st2 L2 hr)
end
def At(arr:Array Kd)(i:Nat):Kd:=arr.getD i (bf,bf)
theorem mO{arr:Array Kd}{i:Nat}(h:i < arr.size):arr[i]? =some (At arr i):=by unfold At; simp [h]
theorem lL{xs ys:Array Kd}{i j:Nat}(h:xs[i]? =ys[j]?):At xs i=At ys j:=by
 unfold At
 rw [u6,u6,h]
def Up(lt:Kd->Kd->Bool)(arr:Array Kd)(lo n:Nat):Prop:= ∀i j,i < j->j < n->lt (At arr (lo+i)) (At arr (lo+j))=true
structure SB(κ:jv)(a0:List Kd)(p:Array (Nat×Nat×Nat))(pre:List Kd)(st:cb):Prop where
 kind:kindOf st=κ
 failed:gS st=none
 perm:(arrOf st).toList.Perm a0
 pend:ck st=p
 pre:(arrOf st).toList.take pre.length=pre
section
variable {prog:av}{w:World}{A:bC}{E:Value->ai->Prop}{s:ai}{κ:jv}{S:Kd->Prop}{lt:Kd->Kd->Bool}{st:cb}{a0 pre:List Kd}{p:Array (Nat×Nat×Nat)}
theorem SB.size(b:SB κ a0 p pre st):(arrOf st).size=a0.length:=by rw [<-ak,b.perm.length_eq]
theorem SB.ss(b:SB κ a0 p pre st)(hS: ∀x∈a0,S x){i:Nat}(h:i < a0.length):S (At (arrOf st) i):=by
 have hi:i < (arrOf st).size:=by rw [b.size]; exact h
 have:=mO hi
 refine hS _ (b.perm.mem_iff.mp ?_)
 rw [<-bz]at this
 exact aT this
theorem SB.ne(b:SB κ a0 p pre st)(nd:a0.Nodup){i j:Nat}(h:i < a0.length)(h':j < a0.length)(hij:i≠j):At (arrOf st) i≠At (arrOf st) j:=fun z=>by
 have nd':(arrOf st).toList.Nodup:=b.perm.symm.nodup nd
 have e1:(arrOf st).toList[i]? =some (At (arrOf st) i):=by rw [bz]; exact mO (by rw [b.size]; exact h)
 have e2:(arrOf st).toList[j]? =some (At (arrOf st) j):=by rw [bz]; exact mO (by rw [b.size]; exact h')
 obtain⟨h1,e1⟩:=aD.mp e1
 obtain⟨h2,e2⟩:=aD.mp e2
 exact hij ((gW nd').mp (by rw [e1,e2,z]))
theorem mP{i j:Nat}{Q:Option Bool->cb->Prop}(c:sj prog w A s κ S lt)(b:SB κ a0 p pre st)(hS: ∀x∈a0,S x)(hi:i < a0.length)(hj:j < a0.length)(h:Q (some (lt (At (arrOf st) i) (At (arrOf st) j))) st):wpS (model prog w) A E s (ltAt' i j) Q st:=by
 rw [ltAt'_eq]
 refine aE (mw ?_)
 refine aE (cN (mO (by rw [b.size]; exact hi)) ?_)
 refine aE (cN (mO (by rw [b.size]; exact hj)) ?_)
 exact q9 c b.kind (b.ss hS hi) (b.ss hS hj) h
theorem SB.setArr(b:SB κ a0 p pre st){xs:Array Kd}(hp:xs.Perm (arrOf st))(hk: ∀i,i < pre.length->xs[i]? =(arrOf st)[i]?):SB κ a0 p pre (setArr st xs):=by
 refine⟨b.kind,b.failed,hp.toList.trans b.perm,b.pend, ?_⟩
 show xs.toList.take pre.length=pre
 have:=b.pre
 rw [<-this]
 apply cA
 intro i
 rw [pV,pV,this]
 split
 ·rename_i h; rw [bz,bz,hk i h]
 ·rfl
theorem wY{lo nrem n:Nat}{f:Nat->Option (Option Nat)×Nat->StateT cb Sem (ForInStep (Option (Option Nat)×Nat))}{Q:Option (Option Nat)×Nat->cb->Prop}(o:lV S lt)(nd:a0.Nodup)(hS: ∀x∈a0,S x)(b:SB κ a0 p pre st)(hn:lo+nrem<=a0.length)(h1:1<=n)(h2:n<=nrem)
  (hf: ∀x m (Q':ForInStep (Option (Option Nat)×Nat)->cb->Prop),m < nrem->1<=m->(lt (At (arrOf st) (lo+m)) (At (arrOf st) (lo+m - 1))=true->Q' (.done (none,m)) st)->(lt (At (arrOf st) (lo+m)) (At (arrOf st) (lo+m - 1))=false->Q' (.yield (none,m+1)) st)->wpS (model prog w) A E s (f x (none,m)) Q' st)
  (u:Up lt (arrOf st) lo n)(h: ∀m,n<=m->m<=nrem->Up lt (arrOf st) lo m->(m=nrem\/lt (At (arrOf st) (lo+m)) (At (arrOf st) (lo+m - 1))=true)->Q (none,m) st):wpS (model prog w) A E s (forIn [n:nrem] (none,n) f) Q st:=by
 refine c0 (I:=fun x c st'=>st'=st/\c=(none,x)/\n<=x/\x<=nrem/\Up lt (arrOf st) lo x) ?_ ?_ ⟨rfl,rfl,ay _,h2,u⟩
 ·rintro x c st' hx1 hx2 ⟨rfl,rfl,h3,h4,u⟩
  refine hf x x _ hx2 (by omega) (fun e=>h x h3 h4 u (.inr e)) fun e=>⟨rfl,rfl,by omega,by omega,fun i j hij hj=> ?_⟩
  by_cases z:j < x
  ·exact u i j hij z
  ·have ej:j=x:=by omega
   subst ej
   have l:lt (At (arrOf st') (lo+j - 1)) (At (arrOf st') (lo+j))=true:=o.tot _ _ (b.ss hS (by omega)) (b.ss hS (by omega)) (b.ne nd (by omega) (by omega) (by omega)) e
   by_cases z2:i=j - 1
   ·subst z2
    rw [show lo+(j - 1)=lo+j - 1 by omega]
    exact l
   ·refine o.tr _ _ _ (u i (j - 1) (by omega) (by omega)) ?_
    rw [show lo+(j - 1)=lo+j - 1 by omega]
    exact l
 ·rintro c st' ⟨rfl,rfl,h3,h4,u⟩
  rw [Nat.max_eq_right (by omega)]at h3 h4 u ⊢
  exact h nrem h2 (ay _) u (.inl rfl)
def Down(lt:Kd->Kd->Bool)(arr:Array Kd)(lo n:Nat):Prop:= ∀i j,i < j->j < n->lt (At arr (lo+j)) (At arr (lo+i))=true
theorem Gr{i j:Nat}{Q:Unit->cb->Prop}(h:Q () (setArr st (mirror (arrOf st) i j ((j - i) / 2)))):wpS (model prog w) A E s (reverseSlice' i j) Q st:=mx h
theorem E2{i j:Nat}{Q:Unit->cb->Prop}(h:Q () (setArr st (bubble (arrOf st) i (i - j)))):wpS (model prog w) A E s (moveDown' i j) Q st:=mx h
set_option maxHeartbeats 4000000 in
theorem Co{nrem:Nat}{Q:Option Nat->cb->Prop}(o:lV S lt)(c:sj prog w A s κ S lt)(nd:a0.Nodup)(hS: ∀x∈a0,S x)(b:SB κ a0 p pre st)(hn:pre.length+nrem<=a0.length)(h1:1<=nrem)
  (h: ∀m st',SB κ a0 p pre st'->1<=m->m<=nrem->Up lt (arrOf st') pre.length m->Q (some m) st'):wpS (model prog w) A E s (countRun' pre.length nrem) Q st:=by
 refine aE (wY (lo:=pre.length) o nd hS b hn (ay 1) h1 (fun x m Q' hm hm1 k1 k2=> ?_) (fun i j hij hj=>by omega) fun m hm1 hm2 um hor=> ?_)
 ·refine aE (mP c b hS (by omega) (by omega) ?_)
  cases e:lt (At (arrOf st) (pre.length+m)) (At (arrOf st) (pre.length+m - 1))with
  | true=>exact aJ (k1 e)
  | false=>exact aJ (k2 e)
 refine b_ (fun e=>aJ (h m st b hm1 hm2 um)) fun e=> ?_
 have e: ¬m=nrem:=fun z=>e (beq_iff_eq.mpr z)
 have hlt:=hor.resolve_left e
 extract_lets n2 neq0 jp
 have q2:m+1=n2:=rfl
 have q0:0=neq0:=rfl
 clear_value n2 neq0
 subst q2 q0
 refine b_ (fun e1=> ?_) fun e1=> ?_
 ·have e1:m > 1:=e1
  refine aE (mP c b hS (by omega) (show pre.length+m - 1 < a0.length by omega) ?_)
  have z:=um 0 (m - 1) (by omega) (by omega)
  rw [show pre.length+(m - 1)=pre.length+m - 1 by omega,Nat.add_zero]at z
  rw [z]
  exact aJ (h m st b hm1 hm2 um)
 have e1: ¬m > 1:=e1
 have em:m=1:=by omega
 subst em
 refine aE (qw (c7 ⟨rfl, ?_⟩))
 refine aE (eG (c0 (I:=fun x c st'=>st'=st/\c=(none,x,0)/\2<=x/\x<=nrem/\Down lt (arrOf st) pre.length x) (Q:=fun c st'=>st'=st/\ ∃m,c=(none,m,0)/\2<=m/\m<=nrem/\Down lt (arrOf st) pre.length m) ?_ ?_ ⟨rfl,rfl,ay _,by omega,fun i j hij hj=> ?_⟩) ?_)
 ·rintro x c' st' hx1 hx2 ⟨rfl,rfl,h3,h4,d⟩
  refine aE (mP c b hS (show pre.length+x < a0.length by omega) (show pre.length+x - 1 < a0.length by omega) ?_)
  cases eq:lt (At (arrOf st') (pre.length+x)) (At (arrOf st') (pre.length+x - 1))with
  | true=>
   refine b_ (fun _=> ?_) fun z=>absurd rfl z
   refine b_ (fun z=>absurd (show(0:Nat) > 0 from z) (by omega)) fun _=>aJ ⟨rfl,rfl,by omega,by omega,fun i j hij hj=> ?_⟩
   by_cases z:j < x
   ·exact d i j hij z
   ·have ej:j=x:=by omega
    subst ej
    by_cases z2:i=j - 1
    ·subst z2
     rw [show pre.length+(j - 1)=pre.length+j - 1 by omega]
     exact eq
    ·refine o.tr _ _ _ eq ?_
     have:=d i (j - 1) (by omega) (by omega)
     rw [show pre.length+(j - 1)=pre.length+j - 1 by omega]at this
     exact this
  | false=>
   refine b_ (fun z=>by cases z) fun _=> ?_
   refine aE (mP c b hS (show pre.length+x - 1 < a0.length by omega) (show pre.length+x < a0.length by omega) ?_)
   rw [o.tot _ _ (b.ss hS (by omega)) (b.ss hS (by omega)) (b.ne nd (by omega) (by omega) (by omega)) eq]
   exact aJ ⟨rfl,x,rfl,h3,h4,d⟩
 ·rintro c' st' ⟨rfl,rfl,h3,h4,d⟩
  exact⟨rfl,_,rfl,h3,h4,d⟩
 ·have ei:i=0:=by omega
  have ej:j=1:=by omega
  subst ei ej
  exact hlt
 ·rintro c' st' ⟨rfl,m,rfl,h3,h4,d⟩
  refine b_ (fun z=>absurd (show(0:Nat) > 0 from z) (by omega)) fun _=> ?_
  refine aE (Gr ?_)
  have hsz:=b.size
  have gm:=fun k=>getElem?_mirror_all (xs:=arrOf st') (i:=pre.length) (j:=pre.length+m) (by omega) k
  have b2:SB κ a0 p pre (setArr st' (mirror (arrOf st') pre.length (pre.length+m) ((pre.length+m - pre.length) / 2))):=b.setArr (mirror_perm _ _ _ _) fun k hk=>by rw [gm k,if_neg (by omega)]
  have u2:Up lt (mirror (arrOf st') pre.length (pre.length+m) ((pre.length+m - pre.length) / 2)) pre.length m:=fun i j hij hj=>by
   have e1:=gm (pre.length+i)
   have e2:=gm (pre.length+j)
   rw [if_pos (by omega),show pre.length+(pre.length+m) - 1 - (pre.length+i)=pre.length+(m - 1 - i) by omega]at e1
   rw [if_pos (by omega),show pre.length+(pre.length+m) - 1 - (pre.length+j)=pre.length+(m - 1 - j) by omega]at e2
   rw [lL e1,lL e2]
   exact d _ _ (by omega) (by omega)
  refine aE (wY (lo:=pre.length) o nd hS b2 hn (show 1<=m by omega) h4 (fun x m Q' hm hm1 k1 k2=> ?_) u2 fun m2 hm1 hm2 um hor=> ?_)
  ·refine aE (mP c b2 hS (by omega) (by omega) ?_)
   cases e:lt (At (arrOf (setArr st' (mirror (arrOf st') pre.length (pre.length+_) ((pre.length+_ - pre.length) / 2)))) (pre.length+m)) (At (arrOf (setArr st' (mirror (arrOf st') pre.length (pre.length+_) ((pre.length+_ - pre.length) / 2)))) (pre.length+m - 1))with
   | true=>exact aJ (k1 e)
   | false=>exact aJ (k2 e)
  ·exact aJ (h m2 _ b2 (bj (show 1<=m by omega) hm1) hm2 um)
set_option maxHeartbeats 4000000 in
theorem zD{n ok:Nat}{Q:Bool->cb->Prop}(o:lV S lt)(c:sj prog w A s κ S lt)(nd:a0.Nodup)(hS: ∀x∈a0,S x)(b:SB κ a0 p pre st)(hn:pre.length+n<=a0.length)(h1:1<=ok)(h2:ok<=n)(u:Up lt (arrOf st) pre.length ok)
  (h: ∀st',SB κ a0 p pre st'->Up lt (arrOf st') pre.length n->Q true st'):wpS (model prog w) A E s (binarySort' pre.length n ok) Q st:=by
 refine aE (eG (c0 (I:=fun k c st'=>c=(none,())/\SB κ a0 p pre st'/\ok<=k/\k<=n/\Up lt (arrOf st') pre.length k) (Q:=fun c st'=>c=(none,())/\SB κ a0 p pre st'/\Up lt (arrOf st') pre.length n) ?_ ?_ ⟨rfl,b,by omega,by omega,by rw [Nat.max_eq_left h1]; exact u⟩) ?_)
 ·rintro k c' st1 hk1 hk2 ⟨rfl,b1,k3,k4,u1⟩
  have key: ∀i,i < k->lt (At (arrOf st1) (pre.length+i)) (At (arrOf st1) (pre.length+k))= !lt (At (arrOf st1) (pre.length+k)) (At (arrOf st1) (pre.length+i)):=fun i hi=>by
   cases e:lt (At (arrOf st1) (pre.length+i)) (At (arrOf st1) (pre.length+k))with
   | true=>rw [o.EH _ _ e]; rfl
   | false=>rw [o.tot _ _ (b1.ss hS (by omega)) (b1.ss hS (by omega)) (b1.ne nd (by omega) (by omega) (by omega)) e]; rfl
  refine aE (rU (n:=k) (p:=fun i=> !lt (At (arrOf st1) (pre.length+k)) (At (arrOf st1) (pre.length+i))) (fun x l r Q' hr j1 j2 j3=> ?_) (fun i j hij hj e=> ?_) (bW _) (ay _) (fun i hi=>absurd hi (by omega)) (fun i hi hi2=>absurd hi (by omega)) fun q hq a1 a2=> ?_)
  ·refine b_ (fun z=>aJ (j1 z)) fun z=> ?_
   have z:l < r:=by have z: ¬l>=r:=z; omega
   have em:(l+r) / 2=l+(r - l) / 2:=by omega
   have hlt:l+(r - l) / 2 < r:=by omega
   refine aE (mP c b1 hS (show pre.length+k < a0.length by omega) (show pre.length+(l+r) / 2 < a0.length by omega) ?_)
   cases e:lt (At (arrOf st1) (pre.length+k)) (At (arrOf st1) (pre.length+(l+r) / 2))with
   | true=>
    have:=j3 z (by rw [<-em,e]; rfl)
    rw [<-em]at this
    exact aJ this
   | false=>
    have:=j2 z (by rw [<-em,e]; rfl)
    rw [<-em]at this
    exact aJ this
  ·rcases Nat.lt_or_eq_of_le hij with z | rfl
   ·rw [<-key i (by omega)]
    rw [<-key j hj]at e
    exact o.tr _ _ _ (u1 i j z hj) e
   ·exact e
  ·refine aE (E2 (aJ ?_))
   have hsz:=b1.size
   have ed:pre.length+k - (pre.length+q)=k - q:=by omega
   have gb:=fun j=>getElem?_bubble (xs:=arrOf st1) (src:=pre.length+k) (by omega) (k - q) (by omega) j
   have es:pre.length+k - (k - q)=pre.length+q:=by omega
   rw [es]at gb
   show _=_/\SB κ a0 p pre (setArr st1 (bubble (arrOf st1) (pre.length+k) (pre.length+k - (pre.length+q))))/\_/\_/\Up lt (bubble (arrOf st1) (pre.length+k) (pre.length+k - (pre.length+q))) pre.length (k+1)
   rw [ed]
   refine⟨rfl,b1.setArr (bubble_perm _ _ _) fun j hj=>by rw [gb j,if_neg (by omega),if_neg (by omega)],by omega,by omega,fun i j hij hj=> ?_⟩
   have e1:=gb (pre.length+i)
   have e2:=gb (pre.length+j)
   have lo_: ∀i,i < q->lt (At (arrOf st1) (pre.length+i)) (At (arrOf st1) (pre.length+k))=true:=fun i hi=>by rw [key i (by omega)]; exact a1 i hi
   have hi_: ∀i,q<=i->i < k->lt (At (arrOf st1) (pre.length+k)) (At (arrOf st1) (pre.length+i))=true:=fun i h1 h2=>by simpa using a2 i h1 h2
   rcases Gh j q with z | z | z
   ·rw [if_neg (by omega),if_neg (by omega)]at e1 e2
    rw [lL e1,lL e2]
    exact u1 i j hij (by omega)
   ·rw [if_neg (by omega),if_neg (by omega)]at e1
    rw [if_pos (by omega)]at e2
    rw [lL e1,lL e2]
    exact lo_ i (by omega)
   ·rw [if_neg (by omega),if_pos (by omega),show pre.length+j - 1=pre.length+(j - 1) by omega]at e2
    rcases Gh i q with y | y | y
    ·rw [if_neg (by omega),if_neg (by omega)]at e1
     rw [lL e1,lL e2]
     exact u1 i (j - 1) (by omega) (by omega)
    ·rw [if_pos (by omega)]at e1
     rw [lL e1,lL e2]
     exact hi_ _ (by omega) (by omega)
    ·rw [if_neg (by omega),if_pos (by omega),show pre.length+i - 1=pre.length+(i - 1) by omega]at e1
     rw [lL e1,lL e2]
     exact u1 (i - 1) (j - 1) (by omega) (by omega)
 ·rintro c' st1 ⟨rfl,b1,k3,k4,u1⟩
  have e:max (max ok 1) n=n:=by omega
  rw [e]at u1
  exact⟨rfl,b1,u1⟩
 ·rintro c' st1 ⟨rfl,b1,u1⟩
  exact aJ (h st1 b1 u1)
end
abbrev Run:=List Kd×Nat
def flat(rs:List Run):List Kd:=(rs.map (·.1)).flatten
def g6:Nat->List Run->List (Nat×Nat×Nat)
 | _, []=> []
 | n,(x,pw)::r=>(n,x.length,pw)::g6 (n+x.length) r
theorem Hx{α:Type}(l m:List α)(a c:α):(l ++ a::m).set l.length c=l ++ c::m:=by simp
theorem Ce{α:Type}(l m:List α)(a b:α):(l ++ a::b::m).eraseIdx (l.length+1)=l ++ a::m:=by
 rw [List.eraseIdx_append_of_length_le (by omega),iF]
 rfl
theorem xK{α:Type}(l:List α)(a:α)(f:α->α):(l ++ [a]).modify ((l ++ [a]).length - 1) f=l ++ [f a]:=by
 rw [aw,eY,Nat.add_sub_cancel]
 induction l with
 | nil=>rfl
 | cons b l ih=>exact congrArg (b:: ·) ih
theorem i0(a b:List Run):flat (a ++ b)=flat a ++ flat b:=by unfold flat; rw [bD,C7]
theorem eF(x:List Kd)(pw:Nat)(b:List Run):flat ((x,pw)::b)=x ++ flat b:=by unfold flat; rw [aY,cL]
theorem jA: ∀(a b:List Run) (n:Nat),g6 n (a ++ b)=g6 n a ++ g6 (n+(flat a).length) b
 | [],b,n=>by simp [g6,flat]
 | (x,pw)::a,b,n=>by
  rw [lT,g6,g6,jA a b,lT,eF,aw,lH]
theorem mR: ∀(a:List Run) (n:Nat),(g6 n a).length=a.length
 | [],n=>rfl
 | (x,pw)::a,n=>by rw [g6,aH,aH,mR a]
structure RI(κ:jv)(lt:Kd->Kd->Bool)(a0:List Kd)(rs:List Run)(rest:List Kd)(st:cb):Prop where
 kind:kindOf st=κ
 failed:gS st=none
 perm:(arrOf st).toList.Perm a0
 arr:(arrOf st).toList=flat rs ++ rest
 pend:ck st=(g6 0 rs).toArray
 good: ∀r∈rs,0 < r.1.length/\kC lt r.1
section
variable {prog:av}{w:World}{A:bC}{E:Value->ai->Prop}{s:ai}{κ:jv}{S:Kd->Prop}{lt:Kd->Kd->Bool}{st:cb}{a0 rest:List Kd}{rs:List Run}
theorem RI.ie(b:RI κ lt a0 rs rest st):rs.length<=(flat rs).length:=by
 have g:=b.good
 clear b
 induction rs with
 | nil=>exact bW _
 | cons r rs ih=>
  obtain⟨x,pw⟩:=r
  have:=ih fun r hr=>g r (.tail _ hr)
  have:=(g (x,pw) (.head _)).1
  rw [eF,aw,aH]
  dsimp only at this
  omega
theorem RI.merge(o:lV S lt)(c:sj prog w A s κ S lt)(nd:a0.Nodup)(hS: ∀x∈a0,S x)(b:RI κ lt a0 rs rest st){i:Nat}(hi:i+1 < rs.length){Q:Bool->cb->Prop}
  (h: ∀(rs':List Run) (st':cb),RI κ lt a0 rs' rest st'->rs'.length+1=rs.length->(flat rs').length=(flat rs).length->Q true st'):wpS (model prog w) A E s (mergeAt' i) Q st:=by
 obtain⟨r1,x,pw,y,pw2,r2,rfl,hl⟩: ∃r1 x pw y pw2 r2,rs=r1 ++ (x,pw)::(y,pw2)::r2/\r1.length=i:=by
  have h0:i < rs.length:=by omega
  refine⟨rs.take i,rs[i].1,rs[i].2,rs[i+1].1,rs[i+1].2,rs.drop (i+2), ?_,by rw [br]; omega⟩
  show rs=rs.take i ++ rs[i]::rs[i+1]::rs.drop (i+2)
  rw [<-kQ hi, <-kQ h0,aX]
 subst hl
 have gx:=b.good (x,pw) (by simp)
 have gy:=b.good (y,pw2) (by simp)
 have e:(arrOf st).toList=flat r1 ++ (x ++ (y ++ (flat r2 ++ rest))):=by rw [b.arr,i0,eF,eF]; simp
 have nd':(flat r1 ++ (x ++ (y ++ (flat r2 ++ rest)))).Nodup:=by rw [<-e]; exact b.perm.symm.nodup nd
 have mem: ∀u,u∈(arrOf st).toList->S u:=fun u hu=>hS u (b.perm.mem_iff.mp hu)
 have pe:ck st=(g6 0 r1 ++ ((flat r1).length,x.length,pw)::((flat r1).length+x.length,y.length,pw2)::g6 ((flat r1).length+x.length+y.length) r2).toArray:=by
  rw [b.pend,jA,g6,g6,qt]
 have lp:=mR r1 0
 refine xx (pre:=flat r1) (x:=x) (y:=y) (post:=flat r2 ++ rest) o c b.kind b.failed (pw:=pw) (pw2:=pw2) ?_ ?_ e gx.1 gy.1 gx.2 gy.2 (fun u hu=>mem u (by rw [e]; simp [hu])) (fun u hu=>mem u (by rw [e]; simp [hu])) (fun u hu v hv z=> ?_) fun z st' k1 k2 k3 k4 k5 k6=> ?_
 ·rw [pe,nh,eS (by omega),lp,jZ]
  rfl
 ·rw [pe,nh,eS (by omega),lp,iF]
  rfl
 ·subst z
  have:=(iU.mp (iU.mp nd').2.1).2.2 u hu u (by simp [hv])
  exact this rfl
 ·have lz:z.length=x.length+y.length:=by rw [k5.length_eq,aw]
  refine h (r1 ++ (z,pw)::r2) st' ⟨k1,k2, ?_, ?_, ?_, ?_⟩ ?_ ?_
  ·rw [k4]
   refine jP ?_ b.perm
   rw [e]
   refine dG _ ?_
   rw [<-aP x y]
   exact k5.append_right _
  ·rw [k4,i0,eF]
   simp
  ·rw [k3,pe,jA,g6,qt,lz, <-lp]
   apply lU.mp
   rw [Array.toList_eraseIdxIfInBounds,Array.toList_setIfInBounds]
   rw [Hx,Ce,lH]
  ·intro r hr
   rcases bI.mp hr with hr | hr
   ·exact b.good r (by simp [hr])
   ·rcases aO.mp hr with rfl | hr
    ·have gx1:0 < x.length:=gx.1
     exact⟨show 0 < z.length by omega,k6⟩
    ·exact b.good r (by simp [hr])
  ·simp
   omega
  ·rw [i0,eF,i0,eF,eF]
   simp [lz,lH]
theorem RI.sb(b:RI κ lt a0 rs rest st):SB κ a0 (ck st) (flat rs) st:=⟨b.kind,b.failed,b.perm,rfl,by rw [b.arr,jw (ay _),dw (ay _)]⟩
theorem RI.next(b:RI κ lt a0 rs rest st){st':cb}{n:Nat}(b':SB κ a0 (ck st) (flat rs) st')(hn:(flat rs).length+n<=a0.length)(u:Up lt (arrOf st') (flat rs).length n): ∃x rest',RI κ lt a0 rs (x ++ rest') st'/\x.length=n/\kC lt x:=by
 have hsz:=b'.size
 refine⟨((arrOf st').toList.drop (flat rs).length).take n,((arrOf st').toList.drop (flat rs).length).drop n,⟨b'.kind,b'.failed,b'.perm, ?_,b'.pend.trans b.pend,b.good⟩, ?_, ?_⟩
 ·rw [aX]
  conv=>rhs; lhs; rw [<-b'.pre]
  rw [aX]
 ·rw [br,bL,ak]; omega
 ·rw [kC,cf]
  intro i j hi hj hij
  rw [br,bL,ak]at hi hj
  rw [fy,fy,dA,dA]
  have g: ∀k (hk:(flat rs).length+k < (arrOf st').toList.length),(arrOf st').toList[(flat rs).length+k]=At (arrOf st') ((flat rs).length+k):=fun k hk=>by
   have e:=mO (arr:=arrOf st') (i:=(flat rs).length+k) (by rw [ak]at hk; exact hk)
   rw [<-bz,ah hk]at e
   exact aA e
  rw [g,g]
  exact u i j hij (by omega)
theorem RI.push{x rest':List Kd}(b:RI κ lt a0 rs (x ++ rest') st)(hx:0 < x.length)(sx:kC lt x){lo:Nat}(hl:lo=(flat rs).length):RI κ lt a0 (rs ++ [(x,0)]) rest' (setPending st ((ck st).push (lo,x.length,0))):=by
 refine⟨b.kind,b.failed,b.perm, ?_, ?_,fun r hr=> ?_⟩
 ·show(arrOf st).toList=_
  rw [b.arr,i0,eF]
  simp [flat]
 ·show(ck st).push _=_
  rw [b.pend,jA,g6,g6,hl]
  simp
 ·rcases bI.mp hr with hr | hr
  ·exact b.good r hr
  ·rcases aK.mp hr with rfl
   exact⟨hx,sx⟩
theorem RI.power(b:RI κ lt a0 rs rest st)(pw:Nat): ∃rs',RI κ lt a0 rs' rest (setPending st ((ck st).modify ((ck st).size - 1) fun(x:Nat×Nat×Nat)=>match x with | (s,l,_)=>(s,l,pw)))/\(flat rs').length=(flat rs).length:=by
 rcases List.eq_nil_or_concat rs with rfl | ⟨r,q,rfl⟩
 ·refine⟨[],⟨b.kind,b.failed,b.perm,b.arr, ?_,b.good⟩,rfl⟩
  generalize hY:(ck st).modify ((ck st).size - 1) _=Y
  show Y=_
  rw [<-hY,b.pend]
  rfl
 ·obtain⟨x,p⟩:=q
  rw [List.concat_eq_append]at b ⊢
  refine⟨r ++ [(x,pw)],⟨b.kind,b.failed,b.perm, ?_, ?_,fun u hu=> ?_⟩,by simp [i0,eF]⟩
  ·show(arrOf st).toList=_
   rw [b.arr]
   simp [i0,eF]
  ·generalize hY:(ck st).modify ((ck st).size - 1) _=Y
   show Y=_
   rw [<-hY,b.pend,jA,jA,g6,g6,g6]
   apply lU.mp
   rw [Array.toList_modify,aB,xK]
   rfl
  ·rcases bI.mp hu with hu | hu
   ·exact b.good u (by simp [hu])
   ·rcases aK.mp hu with rfl
    exact b.good (x,p) (by simp)
set_option maxHeartbeats 4000000 in
theorem DE{Q:Unit->cb->Prop}(o:lV S lt)(c:sj prog w A s κ S lt)(nd:a0.Nodup)(hS: ∀x∈a0,S x)(hk:kindOf st=κ)(hf:gS st=none)(hp:ck st= #[])(ha:(arrOf st).toList=a0)
  (h: ∀st',gS st'=none->(arrOf st').toList.Perm a0->kC lt (arrOf st').toList->Q () st'):wpS (model prog w) A E s sortRuns' Q st:=by
 have hsz:(arrOf st).size=a0.length:=by rw [<-ak,ha]
 rw [sortRuns'_eq]
 refine aE (mw ?_)
 rw [hsz]
 refine aE (eG (c0 (I:=fun x c st'=> ∃rs rest,c=(none,(flat rs).length)/\RI κ lt a0 rs rest st'/\x<=(flat rs).length)
  (Q:=fun c st'=> ∃rs rest,c=(none,(flat rs).length)/\RI κ lt a0 rs rest st'/\a0.length<=(flat rs).length) ?_ ?_ ⟨[],a0,rfl,⟨hk,hf,by rw [ha],by rw [ha]; rfl,hp,fun r hr=>by cases hr⟩,bW _⟩) ?_)
 ·rintro x c' st1 _ hx ⟨rs,rest,rfl,b,hlo⟩
  refine b_ (fun e=>aJ ⟨rs,rest,rfl,b,e⟩) fun e=> ?_
  have e:(flat rs).length < a0.length:=by have e: ¬(flat rs).length>=a0.length:=e; omega
  refine aE (Co (pre:=flat rs) o c nd hS b.sb (by omega) (by omega) fun m st2 b2 m1 m2 u2=> ?_)
  dsimp -zeta only
  extract_lets n1 jp force n2
  have J: ∀(n:Nat) (st3:cb),SB κ a0 (ck st1) (flat rs) st3->1<=n->(flat rs).length+n<=a0.length->Up lt (arrOf st3) (flat rs).length n->wpS (model prog w) A E s (jp () n) (fun r st'=>match r with
    | .done c'=> ∃rs rest,c'=(none,(flat rs).length)/\RI κ lt a0 rs rest st'/\a0.length<=(flat rs).length
    | .yield c'=> ∃rs rest,c'=(none,(flat rs).length)/\RI κ lt a0 rs rest st'/\x+1<=(flat rs).length) st3:=fun n st3 b3 n1 n2 u3=>by
   obtain⟨y,rest',b4,ly,sy⟩:=b.next b3 n2 u3
   refine aE (mw ?_)
   extract_lets lo2 jp2
   have J2: ∀(st4:cb) (rs4:List Run),RI κ lt a0 rs4 (y ++ rest') st4->(flat rs4).length=(flat rs).length->wpS (model prog w) A E s (jp2 ()) (fun r st'=>match r with
    | .done c'=> ∃rs rest,c'=(none,(flat rs).length)/\RI κ lt a0 rs rest st'/\a0.length<=(flat rs).length
    | .yield c'=> ∃rs rest,c'=(none,(flat rs).length)/\RI κ lt a0 rs rest st'/\x+1<=(flat rs).length) st4:=fun st4 rs4 b5 l5=>by
    refine aE (mx (aJ ?_))
    have lf:(flat (rs4 ++ [(y,0)])).length=(flat rs).length+n:=by rw [i0,eF,aw,aw,l5,ly]; rfl
    refine⟨rs4 ++ [(y,0)],rest',by rw [lf], ?_,by omega⟩
    have:=b5.push (by omega) sy l5.symm
    rw [ly]at this
    exact this
   cases hb:(ck st3).back? with
   | none=>exact J2 st3 rs b4 rfl
   | some q=>
    obtain⟨s1,m1,m2⟩:=q
    refine aE (eG (c0 (I:=fun _ c st'=>c=(none,())/\ ∃rs4,RI κ lt a0 rs4 (y ++ rest') st'/\(flat rs4).length=(flat rs).length) (Q:=fun c st'=>c=(none,())/\ ∃rs4,RI κ lt a0 rs4 (y ++ rest') st'/\(flat rs4).length=(flat rs).length) ?_ (fun _ _ z=>z) ⟨rfl,rs,b4,rfl⟩) ?_)
    ·rintro x' c' st5 _ hx' ⟨rfl,rs4,b5,l5⟩
     refine aE (mw ?_)
     dsimp only
     have hps:(ck st5).size=rs4.length:=by rw [b5.pend,aB,mR]
     by_cases h1:(ck st5).size > 1
     ·rw [if_pos h1]
      cases hq:(ck st5)[(ck st5).size - 2]? with
      | none=>exact aJ ⟨rfl,rs4,b5,l5⟩
      | some q=>
       obtain⟨q1,q2,older⟩:=q
       refine b_ (fun _=>aJ ⟨rfl,rs4,b5,l5⟩) fun _=> ?_
       rw [hps]
       refine aE (b5.merge o c nd hS (by omega) fun rs' st' b' k1 k2=> ?_)
       exact aJ ⟨rfl,rs',b',by omega⟩
     ·rw [if_neg h1]
      exact aJ ⟨rfl,rs4,b5,l5⟩
    ·rintro c' st5 ⟨rfl,rs4,b5,l5⟩
     refine aE (mx ?_)
     obtain⟨rs6,b6,l6⟩:=b5.power (power' a0.length (2 * s1+m1) (2 * s1+m1+m1+n) a0.length)
     exact J2 _ rs6 b6 (by omega)
  have m2:m<=a0.length - (flat rs).length:=m2
  refine b_ (fun e1=> ?_) fun e1=> ?_
  ·refine aE (qw (c7 ⟨rfl, ?_⟩))
   have e1:m < minRun' a0.length a0.length 0:=e1
   refine aE (zD (n:=force) o c nd hS b2 (show(flat rs).length+min (a0.length - (flat rs).length) (minRun' a0.length a0.length 0)<=a0.length by omega) m1 (show m<=min (a0.length - (flat rs).length) (minRun' a0.length a0.length 0) by omega) u2 fun st3 b3 u3=> ?_)
   exact eG (J force st3 b3 (show 1<=min (a0.length - (flat rs).length) (minRun' a0.length a0.length 0) by omega) (show(flat rs).length+min (a0.length - (flat rs).length) (minRun' a0.length a0.length 0)<=a0.length by omega) u3) fun r st' z=>by cases r <;> exact z
  ·exact eG (J m st2 b2 m1 (by omega) u2) fun r st' z=>by cases r <;> exact z
 ·rintro c' st1 ⟨rs,rest,rfl,b,hlo⟩
  exact⟨rs,rest,rfl,b,by omega⟩
 ·rintro c' st1 ⟨rs,rest,rfl,b,hlo⟩
  have hre:rest= []:=by
   have:=b.perm.length_eq
   rw [b.arr,aw]at this
   exact lQ.mp (by omega)
  subst hre
  have hfl:(flat rs).length=a0.length:=by
   have:=b.perm.length_eq
   rw [b.arr,aw]at this
   simpa using this
  have hfew:=b.ie
  refine aE (eG (c0 (I:=fun x c st'=>c=(none,())/\ ∃rs,RI κ lt a0 rs [] st'/\(rs.length+x<=a0.length\/rs.length<=1)) (Q:=fun c st'=>c=(none,())/\ ∃rs,RI κ lt a0 rs [] st'/\rs.length<=1) ?_ ?_ ⟨rfl,rs,b, .inl (by omega)⟩) ?_)
  ·rintro x c' st2 _ hx ⟨rfl,rs,b,hl⟩
   refine aE (mw ?_)
   have hps:(ck st2).size=rs.length:=by rw [b.pend,aB,mR]
   dsimp only
   rw [hps]
   refine b_ (fun e=>aJ ⟨rfl,rs,b,e⟩) fun e=> ?_
   have e: ¬rs.length<=1:=e
   refine aE (b.merge o c nd hS ?_ fun rs' st' b' l1 l2=> ?_)
   ·by_cases z0:rs.length - 2 > 0
    ·rw [if_pos z0]
     split <;> omega
    ·rw [if_neg z0,if_neg (by simp)]
     omega
   ·exact aJ ⟨rfl,rs',b', .inl (by omega)⟩
  ·rintro c' st2 ⟨rfl,rs,b,hl⟩
   exact⟨rfl,rs,b,by rcases hl with hl | hl <;> omega⟩
  ·rintro c' st2 ⟨rfl,rs,b,hl⟩
   refine aJ (h st2 b.failed b.perm ?_)
   rw [b.arr,bJ]
   match rs,hl,b with
   | [],_,_=>exact fk
   | [(x,pw)],_,b=>
    rw [eF]
    have:=(b.good (x,pw) (.head _)).2
    simpa [flat]using this
end
abbrev gr:=List (List Int)
section
variable {prog:av}{w:World}
abbrev T1(prog:av)(w:World)(h:Heap)(r:List Int)(b:Addr):Prop:=(ke (fJ prog w)).is h r b
inductive qe(prog:av)(w:World)(h:Heap):gr->List Value->Prop
 | nil:qe prog w h [] []
 | cons {r:List Int} {b:Addr} {rs:gr} {vs:List Value}:T1 prog w h r b->qe prog w h rs vs->qe prog w h (r::rs) (.ref b::vs)
def T2(prog:av)(w:World)(h:Heap)(rs:gr)(a:Addr):Prop:= ∃o items n,h.get? a=some o/\o.cls= .type "tuple"/\o.data= .seq items n/\qe prog w h rs items.toList
theorem T1.keep{h h':Heap}{r:List Int}{b:Addr}(x:T1 prog w h r b)(k: ∀c o,(o.cls= .type "tuple"/\ ∃items n,o.data= .seq items n)->h.get? c=some o->h'.get? c=some o):T1 prog w h' r b:=
 let⟨o,items,n,h1,h2,h3⟩:=x; ⟨o,items,n,k b o ⟨h2,_,_,h3.1⟩ h1,h2,h3⟩
theorem qe.keep{h h':Heap}(k: ∀c o,(o.cls= .type "tuple"/\ ∃items n,o.data= .seq items n)->h.get? c=some o->h'.get? c=some o): ∀{rs:gr} {vs:List Value},qe prog w h rs vs->qe prog w h' rs vs
 | _,_, .nil=> .nil
 | _,_, .cons x t=> .cons (T1.keep x k) (qe.keep k t)
theorem T2.keep{h h':Heap}{rs:gr}{a:Addr}(x:T2 prog w h rs a)(k: ∀c o,(o.cls= .type "tuple"/\ ∃items n,o.data= .seq items n)->h.get? c=some o->h'.get? c=some o):T2 prog w h' rs a:=
 let⟨o,items,n,h1,h2,h3,h4⟩:=x; ⟨o,items,n,k a o ⟨h2,_,_,h3⟩ h1,h2,h3,h4.keep k⟩
theorem qe.inj{h:Heap}: ∀{x y:gr} {vs:List Value},qe prog w h x vs->qe prog w h y vs->x=y
 | _,_,_, .nil, .nil=>rfl
 | _,_,_, .cons a s, .cons b t=>by rw [(ke (fJ prog w)).inj a b,qe.inj s t]
theorem T2.inj{h:Heap}{a:Addr}{x y:gr}(p:T2 prog w h x a)(q:T2 prog w h y a):x=y:=by
 obtain⟨o,i,n,h1,_,h3,h4⟩:=p
 obtain⟨o',i',n',h1',_,h3',h4'⟩:=q
 rw [h1]at h1'
 cases h1'
 rw [h3]at h3'
 cases h3'
 exact h4.inj h4'
theorem qe.len{h:Heap}: ∀{rs:gr} {vs:List Value},qe prog w h rs vs->rs.length=vs.length
 | _,_, .nil=>rfl
 | _,_, .cons _ t=>by rw [aH,aH,qe.len t]
theorem T2.ty{s:ai}{rs:gr}{a:Addr}(x:T2 prog w s.heap rs a):s.TypeIs (.ref a) "tuple":=let⟨o,_,_,h1,h2,_⟩:=x; ⟨o,h1,h2⟩
def yT(r:List Int):PyData:= .tuple (r.map .int)
def C4(rs:gr):PyData:= .tuple (rs.map yT)
theorem pY{h:Heap}: ∀{r:List Int} {vs:List Value},kr (fJ prog w) r vs->ReadsAll h vs (r.map .int) []
 | _,_, .nil=> .nil
 | _,_, .cons a t=>by
  obtain⟨tk,rfl⟩:=kW a
  exact .cons (.int _ tk) (pY t)
theorem qQ{h:Heap}{r:List Int}{b:Addr}(x:T1 prog w h r b): ∃as,Reads h (.ref b) (yT r) as:=by
 obtain⟨o,items,n,h1,h2,h3,h4⟩:=x
 exact⟨_, .tuple h1 h2 h3 (pY h4)⟩
theorem uk{h:Heap}: ∀{rs:gr} {vs:List Value},qe prog w h rs vs-> ∃as,ReadsAll h vs (rs.map yT) as
 | _,_, .nil=>⟨_, .nil⟩
 | _,_, .cons x t=>by
  obtain⟨as,q⟩:=qQ x
  obtain⟨bs,u⟩:=uk t
  exact⟨_, .cons q u⟩
theorem xm{h:Heap}{rs:gr}{a:Addr}(x:T2 prog w h rs a): ∃as,Reads h (.ref a) (C4 rs) as:=by
 obtain⟨o,items,n,h1,h2,h3,h4⟩:=x
 obtain⟨as,q⟩:=uk h4
 exact⟨_, .tuple h1 h2 h3 q⟩
theorem lay_ints: ∀r:List Int,dY (r.map .int)=true
 | []=>by simp [dY]
 | x::r=>by simp only [aY,dY,iS,lay_ints r,jm]
theorem vK(r:List Int):(yT r).canLay0=true:=by unfold yT; simp only [iS,lay_ints]
theorem yr: ∀rs:gr,dY (rs.map yT)=true
 | []=>by simp [dY]
 | x::r=>by simp only [aY,dY,vK,yr r,jm]
theorem Au(rs:gr):(C4 rs).canLay0=true:=by unfold C4; simp only [iS,yr]
theorem yo: ∀r:List Int,dD (r.map .int)=0
 | []=>by simp [dD]
 | x::r=>by simp only [aY,dD,jX,yo r,Nat.max_self]
theorem vf(r:List Int):(yT r).depth=1:=by unfold yT; simp only [jX,yo]
theorem xF: ∀rs:gr,dD (rs.map yT)<=1
 | []=>by simp [dD]
 | x::r=>by simp only [aY,dD,vf]; exact Nat.max_le.mpr ⟨ay _,xF r⟩
theorem Hg(rs:gr):(C4 rs).depth<=2:=by unfold C4; simp only [jX]; have:=xF rs; omega
theorem K0: ∀(x y:List Int),eM (x.map .int) (y.map .int)=decide (x=y)
 | [], []=>by simp [eM]
 | [],_::_=>by simp [eM]
 | _::_, []=>by simp [eM]
 | a::x,b::y=>by
  simp only [aY,eM,K0 x y,jf]
  by_cases h:a=b <;> by_cases h':x=y <;> simp [h,h']
theorem AI(x y:List Int):jf (yT x) (yT y)=decide (x=y):=by unfold yT; simp only [jf,K0]
theorem Ku: ∀(x y:gr),eM (x.map yT) (y.map yT)=decide (x=y)
 | [], []=>by simp [eM]
 | [],_::_=>by simp [eM]
 | _::_, []=>by simp [eM]
 | a::x,b::y=>by
  simp only [aY,eM,Ku x y,AI]
  by_cases h:a=b <;> by_cases h':x=y <;> simp [h,h']
theorem Hk(x y:gr):jf (C4 x) (C4 y)=decide (x=y):=by unfold C4; simp only [jf,Ku]
variable {A:bC}{E:Value->ai->Prop}{s:ai}
theorem Bf{x y:List Int}{a b:Addr}(hu:A.units+1 < cLine)(p:T1 prog w s.heap x a)(q:T1 prog w s.heap y b):SeqAt.EqAt A s (.ref a) (.ref b) (decide (x=y)):=by
 obtain⟨as,r1⟩:=qQ p
 obtain⟨bs,r2⟩:=qQ q
 have:=SeqAt.eqAt_reads (yT x) (yT y) A s (.ref a) (.ref b) as bs r1 r2 (vK x) (vK y) (by rw [vf,vf]; exact hu)
 rw [AI]at this
 exact this
theorem AZ{x y:gr}{a b:Addr}(hu:A.units+2 < cLine)(p:T2 prog w s.heap x a)(q:T2 prog w s.heap y b):SeqAt.EqAt A s (.ref a) (.ref b) (decide (x=y)):=by
 obtain⟨as,r1⟩:=xm p
 obtain⟨bs,r2⟩:=xm q
 have:=SeqAt.eqAt_reads (C4 x) (C4 y) A s (.ref a) (.ref b) as bs r1 r2 (Au x) (Au y) (by have:=Hg x; have:=IL (C4 x).depth (C4 y).depth; omega)
 rw [Hk]at this
 exact this
def uR(prog:av)(w:World)(rs:gr):Int:=wG (fc (rs.map (ke (fJ prog w)).hash))
def j4:gr->Nat
 | []=>0
 | r::rs=>(r.length+1)+j4 rs
theorem uA: ∀a b:gr,j4 (a ++ b)=j4 a+j4 b
 | [],b=>by simp [j4]
 | r::a,b=>by rw [lT,j4,j4,uA a b]; omega
theorem HD{rs:gr}{a:Addr}{Q:Int->ai->Prop}(hu:A.units+1 < cLine)(x:T2 prog w s.heap rs a)(h:Q (uR prog w rs) {s with toks:=s.toks+(j4 rs+1)}):wpAny (model prog w) A (pyHash (.ref a)) Q E s:=by
 have ty:=x.ty
 obtain⟨o,items,n,h1,_,h3,h4⟩:=x
 have hu0:A.units < cLine:=by omega
 unfold pyHash
 first | unfold pyHashByItsType | skip
 first | refine aa (wpAny_cRoomFor_or (.inr hu0) ?_) | skip
 refine aa (gq ty qx.lookup ?_)
 show wpAny _ _ (if(some (Value.builtin "tuple.__hash__")==some bf)=true then _ else _) Q E s
 rw [if_neg (by rw [beq_builtin_none]; exact aC)]
 refine aa (gq ty qx.lookup ?_)
 show wpAny _ _ (callSpecialIfBoundUnlessNone? (.ref a) "__hash__" _ >>=_) Q E s
 refine aa (wpAny_callSpecialIfBoundUnlessNone?_slot ty qx (bh qx ty F.entry_tuple_hash ?_ (F.args_tuple_hash_1 _)))
 show wpAny _ _ (wD (.ref a) >>=_) _ _ s
 refine aa (wpAny_tupleItemsOf h1 h3 ?_)
 refine aa ?_
 rw [<-dM]
 refine lP _ (fun rest (b:Array Int) s'=> ∃d l,rs=d ++ l/\qe prog w s.heap l rest/\b.toList=d.map (ke (fJ prog w)).hash/\s'={s with toks:=s.toks+j4 d}) _ ?_ ?_ _ _ ⟨[],rs,rfl,h4,rfl,rfl⟩
 ·rintro v rest b s' ⟨d,l,rfl,hl,hb,rfl⟩
  cases hl with
  | @cons r c ks _ q hl'=>
   refine aa ((ke (fJ prog w)).pyHash (show A.in1.units < cLine from hu) q ?_)
   have e:j4 (d ++ [r])=j4 d+(r.length+1):=by rw [uA]; rfl
   have fin:({s with toks:=s.toks+j4 d+(r.length+1)}:ai)={s with toks:=s.toks+j4 (d ++ [r])}:=by rw [e,lH]
   first
    | exact ag ⟨d ++ [r],ks,by simp,hl',by simp [hb],fin⟩
    | exact aa (ag (ag ⟨d ++ [r],ks,by simp,hl',by simp [hb],fin⟩))
 ·rintro b s' ⟨d,l,rfl,hl,hb,rfl⟩
  cases hl
  rw [bJ]at h
  show wpAny _ _ (retInt (fc b.toList)) _ _ _
  rw [hb]
  refine wpAny_ret_mkInt ?_
  unfold uR wG at h
  generalize fc (d.map (ke (fJ prog w)).hash)=z at h ⊢
  show wpAny _ _ (if(decide (-(2:Int) ^ 63<=z)&&decide (z < 2 ^ 63))=true then _ else _) Q E _
  by_cases hz:(decide (-(2:Int) ^ 63<=z)&&decide (z < 2 ^ 63))=true
  ·rw [if_pos hz]at h ⊢
   exact ag h
  ·rw [if_neg hz]at h ⊢
   exact aa (c7 (ag h))
theorem Ez{r:List Int}{b:Addr}{n:Nat}{Q:Bool->ai->Prop}(x:T1 prog w s.heap r b)(h:Q true s):wpAny (model prog w) A (eqIsQuiet (n+1) (.ref b)) Q E s:=by
 have ty:s.TypeIs (.ref b) "tuple":=IsTupleKey.typeIs x
 obtain⟨o,items,k,h1,_,h3,h4⟩:=x
 unfold eqIsQuiet
 refine aa (gq ty F.slot_tuple_eq.lookup ?_)
 show wpAny _ _ (isInstance (.ref b) (.type "tuple") >>=_) _ _ s
 refine aa (dO ty isSubtype_tuple_tuple ?_)
 simp only [eN,aS,if_false]
 refine aa (bR h1 h3 ?_)
 refine aa ?_
 show wpAny _ _ (forIn items _ _) _ _ s
 rw [<-dM]
 refine lP _ (fun rest z s'=>z.1=none/\s'=s/\ ∀v∈rest,carriedByValue v=true) _ ?_ ?_ _ _ ⟨rfl,rfl,h4.byValue⟩
 ·rintro v rest z s' ⟨hz,rfl,all⟩
  rw [eqIsQuiet_byValue _ (all v bO)]
  refine aa (ag ?_)
  simp only [eN,aS,if_false]
  exact ag ⟨rfl,rfl,fun u q=>all u (bY _ q)⟩
 ·rintro⟨z1,z2⟩ s' ⟨hz,rfl,_⟩
  simp only at hz
  subst hz
  exact ag h
theorem El{rs:gr}{a:Addr}{n:Nat}{Q:Bool->ai->Prop}(x:T2 prog w s.heap rs a)(h:Q true s):wpAny (model prog w) A (eqIsQuiet (n+2) (.ref a)) Q E s:=by
 have ty:=x.ty
 obtain⟨o,items,k,h1,_,h3,h4⟩:=x
 unfold eqIsQuiet
 refine aa (gq ty F.slot_tuple_eq.lookup ?_)
 show wpAny _ _ (isInstance (.ref a) (.type "tuple") >>=_) _ _ s
 refine aa (dO ty isSubtype_tuple_tuple ?_)
 simp only [eN,aS,if_false]
 refine aa (bR h1 h3 ?_)
 refine aa ?_
 show wpAny _ _ (forIn items _ _) _ _ s
 rw [<-dM]
 refine lP _ (fun rest z s'=>z.1=none/\s'=s/\ ∃l,qe prog w s.heap l rest) _ ?_ ?_ _ _ ⟨rfl,rfl,rs,h4⟩
 ·rintro v rest z s' ⟨hz,rfl,l,hl⟩
  cases hl with
  | cons q t=>
   refine aa (Ez q ?_)
   simp only [eN,aS,if_false]
   exact ag ⟨rfl,rfl,_,t⟩
 ·rintro⟨z1,z2⟩ s' ⟨hz,rfl,_⟩
  simp only at hz
  subst hz
  exact ag h
end
def nu(prog:av)(w:World):HeapKind prog w gr where
 is:=T2 prog w
 hash:=uR prog w
 draws:=fun rs=>j4 rs+1
 room:=fun A=>A.units+2 < cLine
 inj:=fun p q=>p.inj q
 keeps:=fun{h h' k a d o es ep} x ho hd hs=>x.keep fun c u hc hu=>by
  refine(hs.2 c ?_).trans hu
  rintro rfl
  rw [hu]at ho
  cases ho
  obtain⟨_,_,_,z⟩:=hc
  rw [hd]at z
  cases z
 pyHash:=fun hu x h=>HD (by omega) x h
 eqBool:=fun{A E s x y a b Q} hu p q h=>AZ hu p q prog w E Q h
 quiet:=fun x h=>El (n:=6) x h
section
variable {Ky:Type}
open Classical in
noncomputable def rX (pr:List (Value×Ky)) (v:Value):Option Ky:=if h: ∃k,(v,k)∈pr then some h.choose else none
theorem vJ{pr:List (Value×Ky)}(nv:(pr.map (·.1)).Nodup){v:Value}{k:Ky}(h:(v,k)∈pr):rX pr v=some k:=by
 have hx: ∃k,(v,k)∈pr:=⟨k,h⟩
 unfold rX
 rw [dif_pos hx]
 have h2:=hx.choose_spec
 generalize hx.choose=k' at h2
 obtain⟨i,hi,e1⟩:=aN.mp h
 obtain⟨j,hj,e2⟩:=aN.mp h2
 have:i=j:=by
  refine(gW (xs:=pr.map (·.1)) (h₀:=by rw [ae]; exact hi) (h₁:=by rw [ae]; exact hj) nv).mp ?_
  rw [aV,aV,e1,e2]
 subst this
 rw [e1]at e2
 exact congrArg some (qy.mp e2).2.symm
noncomputable def GS (lt:Ky->Ky->Bool) (pr:List (Value×Ky)) (x y:Kd):Bool:=match rX pr x.1,rX pr y.1 with
 | some a,some b=>lt a b
 | _,_=>false
structure nB(lt:Ky->Ky->Bool):Prop where
 tot: ∀x y,x≠y->lt x y=false->lt y x=true
 EH: ∀x y,lt x y=true->lt y x=false
 tr: ∀x y z,lt x y=true->lt y z=true->lt x z=true
def LZ(pr:List (Value×Ky))(x:Kd):Prop:= ∃k,(x.1,k)∈pr/\x.2=x.1
theorem vE{lt:Ky->Ky->Bool}{pr:List (Value×Ky)}(nv:(pr.map (·.1)).Nodup){u v:Value}{a b:Ky}(h:(u,a)∈pr)(h':(v,b)∈pr)(u2 v2:Value):GS lt pr (u,u2) (v,v2)=lt a b:=by
 unfold GS
 rw [vJ nv h,vJ nv h']
theorem LW{lt:Ky->Ky->Bool}(o:nB lt){pr:List (Value×Ky)}(nv:(pr.map (·.1)).Nodup)(nk:(pr.map (·.2)).Nodup):lV (LZ pr) (GS lt pr):=by
 refine⟨fun x y ⟨a,ha,ea⟩ ⟨b,hb,eb⟩ hne e=> ?_,fun x y e=> ?_,fun x y z e1 e2=> ?_⟩
 ·obtain⟨x1,x2⟩:=x
  obtain⟨y1,y2⟩:=y
  rw [vE nv ha hb]at e
  rw [vE nv hb ha]
  refine o.tot a b (fun z=>hne ?_) e
  obtain⟨i,hi,e1⟩:=aN.mp ha
  obtain⟨j,hj,e2⟩:=aN.mp hb
  have:i=j:=by
   refine(gW (xs:=pr.map (·.2)) (h₀:=by rw [ae]; exact hi) (h₁:=by rw [ae]; exact hj) nk).mp ?_
   rw [aV,aV,e1,e2]
   exact z
  subst this
  rw [e1]at e2
  have h1:x1=y1:=(qy.mp e2).1
  have ea:x2=x1:=ea
  have eb:y2=y1:=eb
  rw [ea,eb,h1]
 ·unfold GS at e ⊢
  cases h1:rX pr x.1 with
  | none=>rw [h1]at e; cases e
  | some a=>
   cases h2:rX pr y.1 with
   | none=>exact absurd e (by rw [h1,h2]; exact aC)
   | some b=>rw [h1,h2]at e; exact o.EH _ _ e
 ·unfold GS at e1 e2 ⊢
  cases h1:rX pr x.1 with
  | none=>rw [h1]at e1; cases e1
  | some a=>
   cases h2:rX pr y.1 with
   | none=>rw [h1,h2]at e1; cases e1
   | some b=>
    cases h3:rX pr z.1 with
    | none=>exact absurd e2 (by rw [h2,h3]; exact aC)
    | some c=>
     rw [h1,h2]at e1
     rw [h2,h3]at e2
     exact o.tr _ _ _ e1 e2
def mf(lt:Ky->Ky->Bool)(pr:List (Value×Ky))(out:List Value):Prop:= ∃q:List (Value×Ky),q.Perm pr/\q.map (·.1)=out/\q.Pairwise (fun a b=>lt a.2 b.2=true)
theorem Cb{lt:Ky->Ky->Bool}{pr:List (Value×Ky)}(nv:(pr.map (·.1)).Nodup){l:List Kd}(hp:l.Perm (pr.map fun x=>(x.1,x.1)))(hs:kC (GS lt pr) l):mf lt pr (l.map (·.2)):=by
 have key: ∀l:List Kd,(∀x∈l,LZ pr x)->kC (GS lt pr) l-> ∃q:List (Value×Ky),q.map (fun x=>(x.1,x.1))=l/\(∀x∈q,x∈pr)/\q.Pairwise (fun a b=>lt a.2 b.2=true):=by
  intro l
  induction l with
  | nil=>intro _ _; exact⟨[],rfl,fun x hx=>absurd hx c9,fk⟩
  | cons x l ih=>
   intro h1 h2
   obtain⟨q,e,hm,hq⟩:=ih (fun y hy=>h1 y (.tail _ hy)) (b8.mp h2).2
   obtain⟨k,hk,ek⟩:=h1 x (.head _)
   refine⟨(x.1,k)::q, ?_,fun y hy=> ?_,b8.mpr ⟨fun y hy=> ?_,hq⟩⟩
   ·rw [aY,e]
    obtain⟨x1,x2⟩:=x
    have ek:x2=x1:=ek
    rw [ek]
   ·rcases aO.mp hy with rfl | hy
    ·exact hk
    ·exact hm y hy
   ·have:=(b8.mp h2).1 (y.1,y.1) (by rw [<-e]; exact aQ.mpr ⟨y,hy,rfl⟩)
    have e2:=vE (lt:=lt) nv hk (hm y hy) x.2 y.1
    rw [<-e2]
    exact this
 obtain⟨q,e,hm,hq⟩:=key l (fun x hx=>by
  obtain⟨p,hp',rfl⟩:=aQ.mp (hp.mem_iff.mp hx)
  exact⟨p.2,hp',rfl⟩) hs
 refine⟨q, ?_,by rw [<-e,bV]; rfl,hq⟩
 have h1:(q.map fun x=>(x.1,x.1)).Perm (pr.map fun x=>(x.1,x.1)):=by rw [e]; exact hp
 have h2:(q.map (·.1)).Perm (pr.map (·.1)):=by
  have:=h1.map (fun x:Value×Value=>x.1)
  rw [bV,bV]at this
  exact this
 have back: ∀l:List (Value×Ky),(∀x∈l,x∈pr)->(l.map (·.1)).filterMap (fun v=>(rX pr v).map fun k=>(v,k))=l:=by
  intro l
  induction l with
  | nil=>intro _; rfl
  | cons x l ih=>
   intro h
   rw [aY,jR,vJ nv (show(x.1,x.2)∈pr from h x (.head _)),ih fun y hy=>h y (.tail _ hy)]
   rfl
 have:=h2.filterMap (fun v=>(rX pr v).map fun k=>(v,k))
 rw [back q hm,back pr fun x hx=>hx]at this
 exact this
end
section
variable {prog:av}{w:World}{A:bC}{E:Value->ai->Prop}{s:ai}{Ky:Type}
theorem qU{lt:Ky->Ky->Bool}{κ:jv}{a:Addr}{pr:List (Value×Ky)}{vs:List Value}(evs:vs=pr.map (·.1))(o:nB lt)(nv:(pr.map (·.1)).Nodup)(nk:(pr.map (·.2)).Nodup){n:Nat}{P:y6->ai->Prop}(ho:s.heap.get? a=some (cg "list" vs.toArray n))(hl:vs.length<=sizeLine)
  (kd:2<=vs.length-> ∀(h':Heap) (Q:jv->ai->Prop),(∀b ob,b≠a->s.heap.get? b=some ob->h'.get? b=some ob)->Q κ {s with heap:=h'}->wpAny (model prog w) A (keyKind' vs.toArray) Q E {s with heap:=h'})
  (sy: ∀(h':Heap),(∀b ob,b≠a->s.heap.get? b=some ob->h'.get? b=some ob)-> ∀x∈pr, ∀y∈pr, ∀Q:Bool->ai->Prop,Q (lt x.2 y.2) {s with heap:=h'}->wpAny (model prog w) A (keyLt' κ x.1 y.1) Q (fun _ _=>False) {s with heap:=h'})
  (h: ∀(h':Heap) (out:List Value) (c:Nat),mf lt pr out->h'.get? a=some (cg "list" out.toArray c)->(∀b ob,b≠a->s.heap.get? b=some ob->h'.get? b=some ob)->P (.done (.ret .none)) {s with heap:=h'}):
  wpAny (model prog w) A (cP.«list.sort» ⟨[.ref a], []⟩) P E s:=by
 have s1:=bu s.heap a (cJ fun _=>(#[]:Array Value))
 obtain⟨e1,ho1⟩: ∃e1,(s.heap.update a (cJ fun _=>(#[]:Array Value))).get? a=some (cg "list" #[] e1):=⟨_,ff ho fun _=> #[]⟩
 rw [list_sort_plain]
 refine aa (listItems_at ho rfl ?_)
 refine aa (hW ho rfl ?_ (by rw [aB]; exact hl) (bW _))
 refine aa (seqEpoch_at ho1 rfl ?_)
 refine aa (ku ?_ (by show vs.length<=_; exact hl))
 refine aa (o7 ?_ (bW _))
 refine bq ?_
 have ho3:(((s.heap.update a (cJ fun _=>(#[]:Array Value))).push (cg "tuple" vs.toArray 0)).push (cg "list" #[] 0)).get? a=some (cg "list" #[] e1):=af _ (af _ ho1)
 have hk3: ∀b ob,b≠a->s.heap.get? b=some ob->(((s.heap.update a (cJ fun _=>(#[]:Array Value))).push (cg "tuple" vs.toArray 0)).push (cg "list" #[] 0)).get? b=some ob:=fun b ob hb e=>af _ (af _ ((s1.2 b hb).trans e))
 show wpAny (model prog w) A _ P E {s with heap:=((s.heap.update a (cJ fun _=>(#[]:Array Value))).push (cg "tuple" vs.toArray 0)).push (cg "list" #[] 0)}
 generalize ((s.heap.update a (cJ fun _=>(#[]:Array Value))).push (cg "tuple" vs.toArray 0)).push (cg "list" #[] 0)=H3 at ho3 hk3
 have lvs:vs.length=pr.length:=by rw [evs,ae]
 dsimp only
 have tail: ∀(out:List Value) (st:cb) (R:y6->ai->Prop),out.length=vs.length->(arrOf st).map (·.2)=my out->gS st=none->(∀(h':Heap) (c:Nat),h'.get? a=some (cg "list" out.toArray c)->(∀b ob,b≠a->s.heap.get? b=some ob->h'.get? b=some ob)->R (.done (.ret .none)) {s with heap:=h'})->
   wpAny (model prog w) A (do
    let touched:=(<-seqEpoch a) !=e1
    Builtin.List.listUpdate (.ref a) fun _=>(arrOf st).map (·.2)
    if let some e:=gS st then rule "list.sort.comparison-raised"; throw e
    if touched then rule "list.sort.modified"; raiseError "ValueError" "list modified during sort"
    ret .none) R E {s with heap:=H3}:=by
  intro out st R hp hout hf hR
  have hsz:(my out).size=vs.length:=by rw [aB,hp]
  rw [hout]
  have s2:=bu H3 a (cJ fun _=>my out)
  obtain⟨c2,hc2⟩: ∃c2,(H3.update a (cJ fun _=>my out)).get? a=some (cg "list" (my out) c2):=⟨_,ff ho3 fun _=>my out⟩
  refine aa (seqEpoch_at ho3 rfl ?_)
  refine aa (hW ho3 rfl ?_ (bW _) (bj (mq hsz) (Nat.le_succ_of_le hl)))
  rw [hf]
  simp only [bne_self_eq_false,aS,if_false]
  exact ag (hR _ c2 hc2 fun b ob hb e=>(s2.2 b hb).trans (hk3 b ob hb e))
 have zz:(vs.toArray.zip vs.toArray).toList=pr.map fun x=>(x.1,x.1):=by
  rw [Array.toList_zip]
  show vs.zip vs=_
  rw [evs,List.zip_map']
 by_cases h2:vs.length < 2
 ·have hn2:vs.toArray.size < 2:=by rw [aB]; exact h2
  rw [if_pos hn2,if_pos hn2]
  refine aa (ag ?_)
  refine aa ?_
  rw [StateT.run_pure]
  refine ag ?_
  dsimp only
  refine tail vs _ P rfl ?_ rfl fun h' c h3 h4=>h h' vs c ⟨pr,cR _,evs.symm, ?_⟩ h3 h4
  ·show(vs.toArray.zip vs.toArray).map (·.2)=_
   apply lU.mp
   rw [Array.toList_map,Array.toList_zip]
   exact jh (ay _)
  ·match pr,lvs with
   | [],_=>exact fk
   | [q],_=>exact y7 _ _
   | _::_::_,z=>simp at z; omega
 ·have hn2: ¬vs.toArray.size < 2:=by rw [aB]; exact h2
  rw [if_neg hn2,if_neg hn2]
  refine aa (kd (by omega) H3 _ hk3 ?_)
  have nd0:(pr.map fun x=>(x.1,x.1)).Nodup:=by
   have:(pr.map fun x=>(x.1,x.1))=(pr.map (·.1)).map fun v=>(v,v):=by rw [bV]; rfl
   rw [this]
   exact List.Pairwise.map _ (fun a b hab z=>hab (qy.mp z).1) nv
  refine aa (cF (DE (s:={s with heap:=H3}) (κ:=κ) (S:=LZ pr) (lt:=GS lt pr) (a0:=pr.map fun x=>(x.1,x.1)) (st:=SortSt.mk' κ (vs.toArray.zip vs.toArray) #[] 7 none)
   (Q:=fun _ st'=>gS st'=none/\(arrOf st').toList.Perm (pr.map fun x=>(x.1,x.1))/\kC (GS lt pr) (arrOf st').toList)
   (LW o nv nk) ?says nd0 (fun x hx=> ?mem) rfl rfl rfl zz fun st' a1 a2 a3=>⟨a1,a2,a3⟩) ?_ fun _ _ e=>e)
  case says=>
   rintro⟨x1,x2⟩ ⟨y1,y2⟩ Q ⟨ka,ha,ea⟩ ⟨kb,hb,eb⟩ hQ
   rw [vE nv ha hb]at hQ
   exact sy H3 hk3 (x1,ka) ha (y1,kb) hb Q hQ
  case mem=>
   obtain⟨p,hp,rfl⟩:=aQ.mp hx
   exact⟨p.2,hp,rfl⟩
  rintro⟨⟨⟩,st'⟩ s' ⟨rfl,hf,hp,hs⟩
  dsimp only
  have so:=Cb nv hp hs
  have hlen:((arrOf st').toList.map (·.2)).length=vs.length:=by rw [ae,hp.length_eq,ae,lvs]
  refine tail _ st' P hlen ?_ hf fun h' c h3 h4=>h h' _ c so h3 h4
  apply lU.mp
  rw [Array.toList_map]
end
def oX{α:Type} [DecidableEq α](lt:α->α->Bool):List α->List α->Bool
 | a::as,b::bs=>if a=b then oX lt as bs else lt a b
 | [],_::_=>true
 | _, []=>false
section
variable {α:Type} [DecidableEq α]{lt:α->α->Bool}
theorem ym(o:nB lt): ∀(a b:List α),a≠b->oX lt a b=false->oX lt b a=true
 | [], [],h,_=>absurd rfl h
 | [],_::_,_,h=>by cases h
 | _::_, [],_,_=>rfl
 | a::as,b::bs,h,e=>by
  unfold oX at e ⊢
  by_cases hab:a=b
  ·rw [if_pos hab]at e
   rw [if_pos hab.symm]
   exact ym o as bs (fun z=>h (by rw [hab,z])) e
  ·rw [if_neg hab]at e
   rw [if_neg fun z=>hab z.symm]
   exact o.tot a b hab e
theorem xk(o:nB lt): ∀(a b:List α),oX lt a b=true->oX lt b a=false
 | [], [],h=>by cases h
 | [],_::_,_=>rfl
 | _::_, [],h=>by cases h
 | a::as,b::bs,e=>by
  unfold oX at e ⊢
  by_cases hab:a=b
  ·rw [if_pos hab]at e
   rw [if_pos hab.symm]
   exact xk o as bs e
  ·rw [if_neg hab]at e
   rw [if_neg fun z=>hab z.symm]
   exact o.EH a b e
theorem Bc(o:nB lt): ∀(a b c:List α),oX lt a b=true->oX lt b c=true->oX lt a c=true
 | [],_,_::_,_,_=>rfl
 | _, [], [],_,h=>by cases h
 | _,_::_, [],_,h=>by cases h
 | _::_, [],_::_,h,_=>by cases h
 | a::as,b::bs,c::cs,h1,h2=>by
  unfold oX at h1 h2 ⊢
  by_cases hab:a=b
  ·subst hab
   rw [if_pos rfl]at h1
   by_cases hac:a=c
   ·rw [if_pos hac]at h2 ⊢
    exact Bc o as bs cs h1 h2
   ·rw [if_neg hac]at h2 ⊢
    exact h2
  ·rw [if_neg hab]at h1
   by_cases hbc:b=c
   ·subst hbc
    rw [if_neg hab]
    exact h1
   ·rw [if_neg hbc]at h2
    have:=o.tr a b c h1 h2
    by_cases hac:a=c
    ·subst hac
     rw [o.EH a b h1]at h2
     cases h2
    ·rw [if_neg hac]
     exact this
theorem nB.lex(o:nB lt):nB (oX lt):=⟨ym o,xk o,Bc o⟩
end
def ltI(a b:Int):Bool:=decide (a < b)
theorem yj:nB ltI:=⟨fun x y h e=>decide_eq_true (by have:=of_decide_eq_false e; omega),fun x y e=>decide_eq_false (by have:=of_decide_eq_true e; omega),fun x y z e1 e2=>decide_eq_true (by have:=of_decide_eq_true e1; have:=of_decide_eq_true e2; omega)⟩
abbrev xy:List Int->List Int->Bool:=oX ltI
abbrev ky:gr->gr->Bool:=oX xy
theorem zi:nB ky:=yj.lex.lex
def eD(a b:gr×Int):Bool:=if a.1=b.1 then ltI a.2 b.2 else ky a.1 b.1
theorem BB:nB eD:=by
 refine⟨fun x y h e=> ?_,fun x y e=> ?_,fun x y z e1 e2=> ?_⟩
 ·unfold eD at e ⊢
  by_cases q:x.1=y.1
  ·rw [if_pos q]at e
   rw [if_pos q.symm]
   exact yj.tot _ _ (fun z=>h (wC q z)) e
  ·rw [if_neg q]at e
   rw [if_neg fun z=>q z.symm]
   exact zi.tot _ _ q e
 ·unfold eD at e ⊢
  by_cases q:x.1=y.1
  ·rw [if_pos q]at e
   rw [if_pos q.symm]
   exact yj.EH _ _ e
  ·rw [if_neg q]at e
   rw [if_neg fun z=>q z.symm]
   exact zi.EH _ _ e
 ·obtain⟨a,i⟩:=x
  obtain⟨b,j⟩:=y
  obtain⟨c,k⟩:=z
  unfold eD at e1 e2 ⊢
  dsimp only at e1 e2 ⊢
  by_cases hab:a=b
  ·subst hab
   rw [if_pos rfl]at e1
   by_cases hac:a=c
   ·rw [if_pos hac]at e2 ⊢
    exact yj.tr _ _ _ e1 e2
   ·rw [if_neg hac]at e2 ⊢
    exact e2
  ·rw [if_neg hab]at e1
   by_cases hbc:b=c
   ·subst hbc
    rw [if_neg hab]
    exact e1
   ·rw [if_neg hbc]at e2
    by_cases hac:a=c
    ·subst hac
     rw [zi.EH a b e1]at e2
     cases e2
    ·rw [if_neg hac]
     exact zi.tr a b c e1 e2
theorem yl: ∀a b:List Int,HT.lexLt a b=xy a b
 | [], []=>rfl
 | [],_::_=>rfl
 | _::_, []=>rfl
 | a::as,b::bs=>by
  rw [HT.qR]
  show _=if a=b then xy as bs else decide (a < b)
  rw [yl as bs]
section
variable {prog:av}{w:World}{A:bC}{E:Value->ai->Prop}{s:ai}
theorem AX{h:Heap}{r:List Int}{b:Addr}(x:T1 prog w h r b): ∃items:Array Value,IsTup h b items/\iQ items.toList r:=by
 obtain⟨o,items,n,h1,h2,h3,h4⟩:=x
 refine⟨items,⟨o,h1,h2,n,h3⟩, ?_⟩
 generalize items.toList=l at h4
 induction h4 with
 | nil=>exact .nil
 | cons a t ih=>
  obtain⟨tk,rfl⟩:=kW a
  exact .cons _ tk ih
theorem Ij{x y:List Int}{a b:Addr}{Q:Value->ai->Prop}(hu:A.units < cLine)(p:T1 prog w s.heap x a)(q:T1 prog w s.heap y b)(h:Q (.bool (xy x y)) s):wpAny (model prog w) A (cH .Lt (.ref a) (.ref b)) Q E s:=by
 obtain⟨i1,t1,n1⟩:=AX p
 obtain⟨i2,t2,n2⟩:=AX q
 exact HT.zb t1 t2 n1 n2 hu (by rw [yl]; exact h)
theorem tY{l b:Addr}{items items2:Array Value}{n n2:Nat}{dd dd2:Option Addr}{sl sl2:Array (Option Value)}{x y:gr}:
  MeetsIn prog w (cP.«tuple.__lt__» ⟨[.ref l, .ref b], []⟩)
   (fun A R s=>A.units+2 < cLine/\s.heap.get? l=some {cls:= .type "tuple",dict:=dd,data:= .seq items n,slots:=sl}/\s.heap.get? b=some {cls:= .type "tuple",dict:=dd2,data:= .seq items2 n2,slots:=sl2}/\
    qe prog w s.heap x items.toList/\qe prog w s.heap y items2.toList/\R (.ok (.ret (.bool (ky x y)))) s):=
 .of_wp fun A R s h=>by
  obtain⟨hp,g,d,tk,os⟩:=s
  obtain⟨hu,hl,hb,hi,hj,h⟩:=h
  have f2:=hG
  have z1:items.size=x.length:=by rw [hi.len]; simp
  have z2:items2.size=y.length:=by rw [hj.len]; simp
  wp_walk using cq hl,cq hb,lP _ (fun rest b s'=>b.1=none/\s'=⟨hp,g,d,tk,os⟩/\ ∃(vs ws:List Value) (x' y':gr),rest=vs.zip ws/\
   qe prog w hp x' vs/\qe prog w hp y' ws/\x'.length+items2.size=y'.length+items.size/\R (.ok (.ret (.bool (ky x' y')))) ⟨hp,g,d,tk,os⟩) _
  case turn=>
   rintro⟨u,v⟩ rest b s' ⟨hb',rfl,vs,ws,x',y',hz,hv,hw,hlen,hR⟩
   cases hv with
   | nil=>rw [List.zip_nil_left]at hz; cases hz
   | @cons r a xs vs' ha hv'=>
    cases hw with
    | nil=>rw [List.zip_nil_right]at hz; cases hz
    | @cons r' c ys ws' hc hw'=>
     rw [pR]at hz
     injection hz with hyx hrest
     injection hyx with hy hx
     subst hy hx
     have hR':R (.ok (.ret (.bool (if r=r' then ky xs ys else xy r r')))) ⟨hp,g,d,tk,os⟩:=hR
     simp only [aH]at hlen
     refine aa (Bf (A:=A.in1) (s:=⟨hp,g,d,tk,os⟩) (prog:=prog) (w:=w) (by show A.units+1+1 < cLine; omega) ha hc prog w _ _ ?_)
     by_cases e:r=r'
     ·rw [if_pos e]at hR'
      rw [decide_eq_true e]
      wp_walk
      exact⟨rfl,rfl,_,_,_,_,hrest,hv',hw',by omega,hR'⟩
     ·rw [if_neg e]at hR'
      rw [decide_eq_false e]
      have hri: ∀{E:Value->ai->Prop} {Q:Value->ai->Prop},Q (.bool (xy r r')) ⟨hp,g,d,tk,os⟩->wpAny (model prog w) A.in1 (richCompare .Lt (.ref a) (.ref c)) Q E ⟨hp,g,d,tk,os⟩:=fun q=>Ij (A:=A.in1) (s:=⟨hp,g,d,tk,os⟩) (show A.units+1 < cLine by omega) ha hc q
      wp_walk using hri
      exact⟨_,rfl,by simpa using hR'⟩
  case fin=>
   rintro⟨b1,b2⟩ s' ⟨hb',rfl,vs,ws,x',y',hz,hv,hw,hlen,hR⟩
   simp only at hb'
   subst hb'
   have he:ky x' y'=decide (items.size < items2.size):=by
    cases hv with
    | nil=>
     cases hw with
     | nil=>
      simp only [dC]at hlen
      exact(decide_eq_false (by omega)).symm
     | cons c hw=>
      simp only [dC,aH]at hlen
      exact(decide_eq_true (by omega)).symm
    | cons a hv=>
     cases hw with
     | nil=>
      simp only [dC,aH]at hlen
      exact(decide_eq_false (by omega)).symm
     | cons c hw=>
      rw [pR]at hz
      cases hz
   rw [he]at hR
   wp_walk
   exact⟨_,rfl,by simpa [Builtin.Tuple.tupleCompareSizes]using hR⟩
  case h=>
   exact⟨rfl,rfl,items.toList,items2.toList,x,y,rfl,hi,hj,by omega,h⟩
theorem KQ{x y:gr}{a b:Addr}{Q:Value->ai->Prop}(hu:A.units+2 < cLine)(p:T2 prog w s.heap x a)(q:T2 prog w s.heap y b)(h:Q (.bool (ky x y)) s):wpAny (model prog w) A (cH .Lt (.ref a) (.ref b)) Q E s:=by
 have ta:=p.ty
 have tb:=q.ty
 obtain⟨⟨c1,d1,e1,f1⟩,i1,n1,h1,h2,h3,h4⟩:=p
 obtain⟨⟨c2,d2,e2,f2⟩,i2,n2,k1,k2,k3,k4⟩:=q
 simp only at h2 h3 k2 k3
 subst h2 h3 k2 k3
 show wpAny (model prog w) A (richCompare .Lt (.ref a) (.ref b)) Q E s
 exact wpAny_richCompare_same_room ta tb Bw (call_meetsIn Bw ta PySem.F.entry_tuple_lt (PySem.F.args_tuple_lt_2 _ _) tY ⟨hu,h1,k1,h4,k4,show fC (ky x y)≠Value.notImplemented/\Q (.bool (ky x y)) s from⟨(fun z=>nomatch z),h⟩⟩) (by omega)
end
section
variable {prog:av}{w:World}{A:bC}{E:Value->ai->Prop}{s:ai}
theorem uS{M:Model}{h:Heap}{b:Addr}{o:Obj}(e:h.get? b=some o)(c:o.cls= .type "tuple"):Looks M h (typeOf (.ref b)) (.type "tuple"):=fun A Q E s k q=>fj (T:="tuple") ⟨o,k _ _ e,c⟩ q
theorem Dy{M:Model}{h:Heap}{r:List Int}{b:Addr}(x:T1 prog w h r b):Looks M h (typeOf (.ref b)) (.type "tuple"):=let⟨_,_,_,h1,h2,_⟩:=x; uS h1 h2
theorem DF{M:Model}{h:Heap}{r:gr}{b:Addr}(x:T2 prog w h r b):Looks M h (typeOf (.ref b)) (.type "tuple"):=let⟨_,_,_,h1,h2,_⟩:=x; uS h1 h2
theorem ye{fin:Bool}{Q:Bool->ai->Prop}(hu:A.units+1 < cLine): ∀(x y:gr) (l l':List Value) (i:Nat),qe prog w s.heap x l->qe prog w s.heap y l'->x.length=y.length->fin=false->Q (ky x y) s->KatLex prog w A false fin Q (l.zip l') i s
 | [], [],_,_,i, .nil, .nil,_,hf,hq=>by subst hf; exact hq
 | [],_::_,_,_,_,_,_,hl,_,_=>by simp at hl
 | _::_, [],_,_,_,_,_,hl,_,_=>by simp at hl
 | r::x,r'::y,_,_,i, .cons a s1, .cons b s2,hl,hf,hq=>by
  have hq:Q (if r=r' then ky x y else xy r r') s:=hq
  refine kat_cons (Bf hu a b prog w _ _ ?_)
  by_cases e:r=r'
  ·rw [if_pos e]at hq
   rw [decide_eq_true e]
   exact kat_yes (ye hu x y _ _ (i+1) s1 s2 (by simpa using hl) hf hq)
  ·rw [if_neg e]at hq
   rw [decide_eq_false e]
   refine kat_no ?_
   rw [fR]
   exact kat_one _ _ (Ij (by omega) a b hq)
theorem IV{x y:gr}{a b:Addr}{Q:Bool->ai->Prop}(hu:A.units+1 < cLine)(p:T2 prog w s.heap x a)(q:T2 prog w s.heap y b)(hl:x.length=y.length)(h:Q (ky x y) s):wpAny (model prog w) A (keyLt' (tuples' false) (.ref a) (.ref b)) Q (fun _ _=>False) s:=by
 obtain⟨o,i1,n,h1,_,h3,h4⟩:=p
 obtain⟨o',i2,n',k1,_,k3,k4⟩:=q
 have l1:i1.size=x.length:=by rw [h4.len,ak]
 have l2:i2.size=y.length:=by rw [k4.len,ak]
 exact kat_lt h1 h3 k1 k3 (ye hu x y _ _ 0 h4 k4 hl (decide_eq_false (by rw [l1,l2,hl]; exact df _)) h)
def T3(prog:av)(w:World)(h:Heap)(k:gr×Int)(a:Addr):Prop:= ∃o n b t,h.get? a=some o/\o.cls= .type "tuple"/\o.data= .seq #[.ref b, .int k.2 t] n/\T2 prog w h k.1 b
theorem T3.keep{h h':Heap}{k:gr×Int}{a:Addr}(x:T3 prog w h k a)(q: ∀c o,(o.cls= .type "tuple"/\ ∃items n,o.data= .seq items n)->h.get? c=some o->h'.get? c=some o):T3 prog w h' k a:=
 let⟨o,n,b,t,h1,h2,h3,h4⟩:=x; ⟨o,n,b,t,q a o ⟨h2,_,_,h3⟩ h1,h2,h3,h4.keep q⟩
theorem Jt{x y:gr×Int}{a b:Addr}{Q:Bool->ai->Prop}(hu:A.units+2 < cLine)(p:T3 prog w s.heap x a)(q:T3 prog w s.heap y b)(h:Q (eD x y) s):wpAny (model prog w) A (keyLt' (tuples' false) (.ref a) (.ref b)) Q (fun _ _=>False) s:=by
 obtain⟨o,n,c,t,h1,_,h3,h4⟩:=p
 obtain⟨o',n',c',t',k1,_,k3,k4⟩:=q
 refine kat_lt h1 h3 k1 k3 ?_
 show KatLex prog w A false _ Q [(.ref c, .ref c'),(.int x.2 t, .int y.2 t')] 0 s
 refine kat_cons (AZ hu h4 k4 prog w _ _ ?_)
 unfold eD at h
 by_cases e:x.1=y.1
 ·rw [if_pos e]at h
  rw [decide_eq_true e]
  refine kat_yes (kat_cons (HZ ?_))
  by_cases e2:x.2=y.2
  ·rw [beq_iff_eq.mpr e2]
   refine kat_yes (kat_nil ?_)
   have z:ltI x.2 y.2=false:=decide_eq_false (by omega)
   rw [z]at h
   exact h
  ·rw [beq_eq_false_iff_ne.mpr e2]
   refine kat_no ?_
   rw [fR]
   exact kat_one _ _ (lt_int h)
 ·rw [if_neg e]at h
  rw [decide_eq_false e]
  refine kat_no ?_
  rw [fR]
  exact kat_one _ _ (KQ (by omega) h4 k4 h)
theorem Im{h:Heap}: ∀{pr:List (Value×gr)},(∀q∈pr, ∃b,q.1=aq b/\T2 prog w h q.2 b/\q.2≠ [])-> ∃fs,KatTups h (pr.map (·.1)) fs/\fs.length=pr.length/\ ∀v∈fs, ∃r b,v=aq b/\T1 prog w h r b
 | [],_=>⟨[],trivial,rfl,fun v hv=>by cases hv⟩
 | q::pr,x=>by
  obtain⟨b,e,⟨o,items,n,h1,h2,h3,h4⟩,hne⟩:=x q (.head _)
  obtain⟨fs,a1,a2,a3⟩:=Im (pr:=pr) fun u hu=>x u (.tail _ hu)
  obtain⟨v,rs⟩:=q
  obtain⟨items⟩:=items
  cases h4 with
  | nil=>exact absurd rfl hne
  | @cons r c rs' vs' hr t=>
   refine⟨.ref c::fs,⟨⟨b,o,_,n,e,h1,h2,h3,rfl⟩,a1⟩,by simp [a2],fun u hu=> ?_⟩
   rcases aO.mp hu with rfl | hu
   ·exact⟨r,c,rfl,hr⟩
   ·exact a3 u hu
theorem Il{h:Heap}: ∀{pr:List (Value×(gr×Int))},(∀q∈pr, ∃b,q.1=aq b/\T3 prog w h q.2 b)-> ∃fs,KatTups h (pr.map (·.1)) fs/\fs.length=pr.length/\ ∀v∈fs, ∃r b,v=aq b/\T2 prog w h r b
 | [],_=>⟨[],trivial,rfl,fun v hv=>by cases hv⟩
 | q::pr,x=>by
  obtain⟨b,e,o,n,c,t,h1,h2,h3,h4⟩:=x q (.head _)
  obtain⟨fs,a1,a2,a3⟩:=Il (pr:=pr) fun u hu=>x u (.tail _ hu)
  refine⟨.ref c::fs,⟨⟨b,o,_,n,e,h1,h2,h3,rfl⟩,a1⟩,by simp [a2],fun u hu=> ?_⟩
  rcases aO.mp hu with rfl | hu
  ·exact⟨_,c,rfl,h4⟩
  ·exact a3 u hu
theorem Gz{a:Addr}{pr:List (Value×gr)}{m n:Nat}{P:y6->ai->Prop}(hu:A.units+1 < cLine)(ho:s.heap.get? a=some (cg "list" (pr.map (·.1)).toArray n))(hl:pr.length<=sizeLine)(y: ∀q∈pr, ∃b,q.1=aq b/\T2 prog w s.heap q.2 b)(hm: ∀q∈pr,q.2.length=m)(m0:0 < m)(nk:(pr.map (·.2)).Nodup)
  (h: ∀(h':Heap) (out:List Value) (c:Nat),mf ky pr out->h'.get? a=some (cg "list" out.toArray c)->(∀b ob,b≠a->s.heap.get? b=some ob->h'.get? b=some ob)->P (.done (.ret .none)) {s with heap:=h'}):
  wpAny (model prog w) A (cP.«list.sort» ⟨[.ref a], []⟩) P E s:=by
 have nv:(pr.map (·.1)).Nodup:=by
  refine cf.mpr fun i j hi hj hij z=> ?_
  rw [ae]at hi hj
  rw [aV,aV]at z
  obtain⟨b,e1,t1⟩:=y _ (aR hi)
  obtain⟨b',e2,t2⟩:=y _ (aR hj)
  rw [e1,e2]at z
  cases z
  have:=(cf.mp nk) i j (by rw [ae]; exact hi) (by rw [ae]; exact hj) hij
  rw [aV,aV]at this
  exact this (t1.inj t2)
 have kp: ∀h':Heap,(∀b ob,b≠a->s.heap.get? b=some ob->h'.get? b=some ob)-> ∀q∈pr, ∃b,q.1=aq b/\T2 prog w h' q.2 b:=fun h' k q hq=>by
  obtain⟨b,e,t⟩:=y q hq
  exact⟨b,e,t.keep fun c o hc z=>k c o (by rintro rfl; rw [ho]at z; cases z; exact absurd (show cz "list"=cz "tuple" from hc.1) (by decide)) z⟩
 have ne: ∀q∈pr,q.2≠ []:=fun q hq z=>by have:=hm q hq; rw [z]at this; simp at this; omega
 refine qU (lt:=ky) (κ:=tuples' false) rfl zi nv nk ho (by rw [ae]; exact hl) (fun h2 h' Q k q=> ?_) (fun h' k x hx z hz Q q=> ?_) h
 ·obtain⟨fs,a1,a2,a3⟩:=Im (prog:=prog) (w:=w) (h:=h') (pr:=pr) fun q hq=>let⟨b,e,t⟩:=kp h' k q hq; ⟨b,e,t,ne q hq⟩
  rw [ae]at h2
  exact kat_kind (s:={s with heap:=h'}) (T:= .type "tuple") a1 (by omega) (fun v hv=>by obtain⟨r,b,rfl,t⟩:=a3 v hv; exact Dy t) (by decide) q
 ·obtain⟨b,e1,t1⟩:=kp h' k x hx
  obtain⟨c,e2,t2⟩:=kp h' k z hz
  rw [e1,e2]
  exact IV (s:={s with heap:=h'}) hu t1 t2 (by rw [hm x hx,hm z hz]) q
theorem AV{a:Addr}{pr:List (Value×(gr×Int))}{n:Nat}{P:y6->ai->Prop}(hu:A.units+2 < cLine)(ho:s.heap.get? a=some (cg "list" (pr.map (·.1)).toArray n))(hl:pr.length<=sizeLine)(y: ∀q∈pr, ∃b,q.1=aq b/\T3 prog w s.heap q.2 b)(nk:(pr.map (·.2)).Nodup)
  (h: ∀(h':Heap) (out:List Value) (c:Nat),mf eD pr out->h'.get? a=some (cg "list" out.toArray c)->(∀b ob,b≠a->s.heap.get? b=some ob->h'.get? b=some ob)->P (.done (.ret .none)) {s with heap:=h'}):
  wpAny (model prog w) A (cP.«list.sort» ⟨[.ref a], []⟩) P E s:=by
 have nv:(pr.map (·.1)).Nodup:=by
  refine cf.mpr fun i j hi hj hij z=> ?_
  rw [ae]at hi hj
  rw [aV,aV]at z
  obtain⟨b,e1,o1,n1,c1,t1,p1,p2,p3,p4⟩:=y _ (aR hi)
  obtain⟨b',e2,o2,n2,c2,t2,q1,q2,q3,q4⟩:=y _ (aR hj)
  rw [e1,e2]at z
  cases z
  rw [p1]at q1
  cases q1
  rw [p3]at q3
  simp only [Data.seq.injEq,Array.mk.injEq,List.cons.injEq,Value.ref.injEq,Value.int.injEq,and_true]at q3
  obtain⟨⟨rfl,k2,_⟩,_⟩:=q3
  have:=(cf.mp nk) i j (by rw [ae]; exact hi) (by rw [ae]; exact hj) hij
  rw [aV,aV]at this
  exact this (wC (p4.inj q4) k2)
 have kp: ∀h':Heap,(∀b ob,b≠a->s.heap.get? b=some ob->h'.get? b=some ob)-> ∀q∈pr, ∃b,q.1=aq b/\T3 prog w h' q.2 b:=fun h' k q hq=>by
  obtain⟨b,e,t⟩:=y q hq
  exact⟨b,e,t.keep fun c o hc z=>k c o (by rintro rfl; rw [ho]at z; cases z; exact absurd (show cz "list"=cz "tuple" from hc.1) (by decide)) z⟩
 refine qU (lt:=eD) (κ:=tuples' false) rfl BB nv nk ho (by rw [ae]; exact hl) (fun h2 h' Q k q=> ?_) (fun h' k x hx z hz Q q=> ?_) h
 ·obtain⟨fs,a1,a2,a3⟩:=Il (prog:=prog) (w:=w) (h:=h') (pr:=pr) (kp h' k)
  rw [ae]at h2
  exact kat_kind (s:={s with heap:=h'}) (T:= .type "tuple") a1 (by omega) (fun v hv=>by obtain⟨r,b,rfl,t⟩:=a3 v hv; exact DF t) (by decide) q
 ·obtain⟨b,e1,t1⟩:=kp h' k x hx
  obtain⟨c,e2,t2⟩:=kp h' k z hz
  rw [e1,e2]
  exact Jt (s:={s with heap:=h'}) hu t1 t2 q
end
abbrev ox:List Int->List Int->Bool:=xy
theorem uq(a b:Int)(x y:List Int):ox (a::x) (b::y)=if a=b then ox x y else decide (a < b):=rfl
theorem DM{a b:List Int}(h:a≠b)(e:ox a b=false):ox b a=true:=yj.lex.tot a b h e
theorem DN{a b:List Int}(e:ox a b=true):ox b a=false:=yj.lex.EH a b e
theorem A0{a b c:List Int}(e:ox a b=true)(e':ox b c=true):ox a c=true:=yj.lex.tr a b c e e'
abbrev yc(pr:List (Value×List Int))(out:List Value):Prop:=mf ox pr out
theorem yc.perm{pr pr':List (Value×List Int)}{out:List Value}(h:yc pr' out)(hp:pr'.Perm pr):yc pr out:=let⟨q,a,b,c⟩:=h; ⟨q,a.trans hp,b,c⟩
theorem mz{α β:Type}{f:α->β}: ∀{r:List α} {l:List β},l.Perm (r.map f)-> ∃l':List α,l'.Perm r/\l'.map f=l
 | [],l,h=>⟨[],cR _,by rw [qp]at h; rw [qp,h.eq_nil]⟩
 | x::r,l,h=>by
  have hm:f x∈l:=h.mem_iff.mpr (by simp)
  obtain⟨s,t,rfl⟩:=List.append_of_mem hm
  have h2:(s ++ t).Perm (r.map f):=by
   have:=Ib.symm.trans h
   rw [aY]at this
   exact this.cons_inv
  obtain⟨l',h3,h4⟩:=mz h2
  refine⟨l'.take s.length ++ x::l'.drop s.length, ?_, ?_⟩
  ·refine Ib.trans ?_
   rw [aX]
   exact h3.cons x
  ·rw [bD,aY,yP,lI,h4]
   simp
section
variable {prog:av}{w:World}{A:bC}{E:Value->ai->Prop}{s:ai}
theorem Kn{p q:Int}{t u:Tok}{b:Bool}{Q:Bool->ai->Prop}(h:Q (decide (p < q)) s):wpAny (model prog w) A (oneLt' b (.int p t) (.int q u)) Q (fun _ _=>False) s:=by
 cases b with
 | true=>exact oneLt_int h
 | false=>exact kat_one _ _ (lt_int h)
theorem xA{k:Int}{v:Value}(h:(fJ prog w).is k v=true): ∃t,v=fQ k t:=kW h
theorem Ed{b fin:Bool}{Q:Bool->ai->Prop}: ∀(ks ks':List Int) (l l':List Value) (i:Nat),kr (fJ prog w) ks l->kr (fJ prog w) ks' l'->(ks.length=ks'.length)->fin=false->Q (ox ks ks') s->KatLex prog w A b fin Q (l.zip l') i s
 | [], [],l,l',i,h1,h2,_,hf,hq=>by
  cases h1
  cases h2
  subst hf
  exact hq
 | [],_::_,_,_,_,_,_,hl,_,_=>by simp at hl
 | _::_, [],_,_,_,_,_,hl,_,_=>by simp at hl
 | k::ks,k'::ks',l,l',i,h1,h2,hl,hf,hq=>by
  cases h1 with
  | cons a1 r1=>
   cases h2 with
   | cons a2 r2=>
    obtain⟨t,rfl⟩:=xA a1
    obtain⟨u,rfl⟩:=xA a2
    refine kat_cons (HZ ?_)
    refine kat_go (fun e=>kat_yes (Ed ks ks' _ _ (i+1) r1 r2 (by simpa using hl) hf ?_)) fun e=>kat_no (Kn ?_)
    ·rw [uq,if_pos (of_decide_eq_true e)]at hq
     exact hq
    ·rw [uq,if_neg (of_decide_eq_false e)]at hq
     exact hq
def J8(prog:av)(w:World)(h:Heap)(pr:List (Value×List Int)):Prop:= ∀q∈pr, ∃b,q.1=aq b/\TK prog w h q.2 b/\q.2.length=2
theorem J8.kat{h:Heap}: ∀{pr:List (Value×List Int)},J8 prog w h pr-> ∃fs,KatTups h (pr.map (·.1)) fs/\fs.length=pr.length/\ ∀v∈fs, ∃i t,v=fQ i t
 | [],_=>⟨[],trivial,rfl,fun v hv=>by cases hv⟩
 | q::pr,x=>by
  obtain⟨b,e,⟨o,items,n,ho,hc,hd,hi⟩,hne⟩:=x q (.head _)
  obtain⟨fs,h1,h2,h3⟩:=J8.kat (pr:=pr) fun u hu=>x u (.tail _ hu)
  have hin:=vC hi
  have hlen:=hi.length
  obtain⟨items⟩:=items
  cases items with
  | nil=>rw [hne]at hlen; cases hlen
  | cons f r=>
   refine⟨f::fs,⟨⟨b,o,_,n,e,ho,hc,hd,rfl⟩,h1⟩,by simp [h2],fun u hu=> ?_⟩
   rcases aO.mp hu with rfl | hu
   ·exact hin _ (.head _)
   ·exact h3 u hu
theorem Ee{a:Addr}{pr:List (Value×List Int)}{n:Nat}{P:y6->ai->Prop}(ho:s.heap.get? a=some (cg "list" (pr.map (·.1)).toArray n))(hl:pr.length<=sizeLine)(y:J8 prog w s.heap pr)(nk:(pr.map (·.2)).Nodup)
  (h: ∀(h':Heap) (out:List Value) (c:Nat),yc pr out->h'.get? a=some (cg "list" out.toArray c)->(∀b ob,b≠a->s.heap.get? b=some ob->h'.get? b=some ob)->P (.done (.ret .none)) {s with heap:=h'}):
  wpAny (model prog w) A (cP.«list.sort» ⟨[.ref a], []⟩) P E s:=by
 have nv:(pr.map (·.1)).Nodup:=by
  refine cf.mpr fun i j hi hj hij z=> ?_
  rw [ae]at hi hj
  rw [aV,aV]at z
  obtain⟨b,e1,t1,_⟩:=y _ (aR hi)
  obtain⟨b',e2,t2,_⟩:=y _ (aR hj)
  rw [e1,e2]at z
  cases z
  have:=(cf.mp nk) i j (by rw [ae]; exact hi) (by rw [ae]; exact hj) hij
  rw [aV,aV]at this
  exact this (n9 t1 t2)
 have kp: ∀h':Heap,(∀b ob,b≠a->s.heap.get? b=some ob->h'.get? b=some ob)->J8 prog w h' pr:=fun h' k q hq=>by
  obtain⟨b,e,t,l⟩:=y q hq
  have hb:b≠a:=by
   rintro rfl
   obtain⟨o,_,_,z,hc,_⟩:=t
   rw [ho]at z
   cases z
   exact absurd (show cz "list"=cz "tuple" from hc) (by decide)
  exact⟨b,e,t.keep fun o z=>k b o hb z,l⟩
 refine qU (lt:=ox) (κ:=tuples' true) rfl yj.lex nv nk ho (by rw [ae]; exact hl) (fun h2 h' Q k q=> ?_) (fun h' k x hx z hz Q q=> ?_) h
 ·obtain⟨fs,a1,a2,a3⟩:=(kp h' k).kat
  rw [ae]at h2
  exact kat_kind (s:={s with heap:=h'}) (T:= .type "int") a1 (by omega) (fun v hv=>by obtain⟨i,t,rfl⟩:=a3 v hv; exact .now) (by decide) q
 ·obtain⟨b,e1,⟨o,items,n,ho,hc,hd,hit⟩,hl1⟩:=kp h' k x hx
  obtain⟨c,e2,⟨o',items',n',ho',hc',hd',hit'⟩,hl2⟩:=kp h' k z hz
  rw [e1,e2]
  have z1:=hit.length
  have z2:=hit'.length
  refine kat_lt (s:={s with heap:=h'}) ho hd ho' hd' (Ed _ _ _ _ 0 hit hit' (by rw [hl1,hl2]) (decide_eq_false ?_) q)
  rw [ak]at z1 z2
  omega
theorem xr{a:Addr}{o:Obj}{es:Array (Int×Value)}{ep:Nat}{t:cM}{Q:Value->ai->Prop}(hh:A.handled=none)(S:PF (!qk w) o es ep t)(hg:s.heap.get? a=some o)(pr:List (Value×List Int))(hpr:pr.map (·.1)=es.toList.map (·.2))(y:J8 prog w s.heap pr)(nd:(pr.map (·.2)).Nodup)
  (h: ∀(h':Heap) (tk D:Nat) (out:List Value) (c:Nat),s.heap.objs.size<=D->yc pr out->h'.get? D=some (cg "list" out.toArray c)->(∀b ob,s.heap.get? b=some ob->h'.get? b=some ob)->Q (.ref D) {s with heap:=h',toks:=tk}):
  wpAny (model prog w) A (call (.builtin "sorted") [.ref a]) Q E s:=by
 refine kS C1 Ao Ap (Aq _) ?_
 unfold cP.«sorted»
 refine aa (m:=checkCount "sorted" 1 1 _) (ag ?_)
 refine aa (yg (by simpa using hh) S hg fun h1 tk vs hsz hk hp=> ?_)
 have hlen:vs.length<=20:=by rw [hp.length_eq,ae,ak]; have:=S.ie; omega
 obtain⟨pr',hpp,hpm⟩:=mz (f:=fun q:Value×List Int=>q.1) (hpr▸hp)
 have nd':(pr'.map (·.2)).Nodup:=(hpp.map _).symm.nodup nd
 refine aa (o7 ?_ (by rw [eL]; omega))
 have hoL:(h1.push (cg "list" vs.toArray 0)).get? h1.objs.size=some (cg "list" vs.toArray 0):=ar _ rfl
 have hk2: ∀b ob,s.heap.get? b=some ob->(h1.push (cg "list" vs.toArray 0)).get? b=some ob:=fun b ob e=>af _ (hk b ob e)
 have ltb: ∀b ob,s.heap.get? b=some ob->b≠h1.objs.size:=fun b ob e=>aF (Nat.lt_trans (au e) hsz)
 show wpAny _ _ _ _ _ {s with heap:=h1.push (cg "list" vs.toArray 0),toks:=tk}
 refine aa (bq (bh wK ⟨_,hoL,rfl⟩ uh ?body (wL _)))
 case body=>
  refine Ee (s:={s with heap:=h1.push (cg "list" vs.toArray 0),toks:=tk}) (pr:=pr') (by show(h1.push (cg "list" vs.toArray 0)).get? h1.objs.size=_; rw [hoL, <-hpm]) (by have:=congrArg kZ hpm; rw [ae]at this; rw [eL]; omega) (fun q hq=> ?_) nd' fun h' out c hp2 hg2 hk3=> ?_
  ·obtain⟨b,e,hkk,hne⟩:=y q (hpp.mem_iff.mp hq)
   exact⟨b,e,hkk.keep fun ob z=>hk2 b ob z,hne⟩
  ·exact⟨_,rfl,ag ⟨_,rfl,h h' tk h1.objs.size out c (iN hsz) (hp2.perm hpp) hg2 fun b ob e=>hk3 b ob (ltb b ob e) (hk2 b ob e)⟩⟩
end
end Z
namespace Z
open PySem PySem.Spec PyProof.Rows L2
abbrev wa(a b:Int×Int):Bool:=ox (wN a) (wN b)
def rV(p:Int×Int):List (Int×Int)->List (Int×Int)
 | []=> [p]
 | q::r=>if wa p q then p::q::r else if p=q then q::r else q::rV p r
def gC(ps:List (Int×Int)):List (Int×Int):=ps.foldr rV []
theorem qW(p x:Int×Int): ∀l,x∈rV p l↔x=p\/x∈l
 | []=>by simp [rV]
 | q::r=>by
  unfold rV
  split
  ·simp
  ·split
   ·rename_i e
    subst e
    simp
   ·rw [aO,qW p x r,aO]
    constructor
    ·rintro(h | h | h)
     ·exact .inr (.inl h)
     ·exact .inl h
     ·exact .inr (.inr h)
    ·rintro(h | h | h)
     ·exact .inr (.inl h)
     ·exact .inl h
     ·exact .inr (.inr h)
theorem oH(x:Int×Int): ∀ps,x∈gC ps↔x∈ps
 | []=>by simp [gC]
 | p::ps=>by
  show x∈rV p (gC ps)↔_
  rw [qW,oH x ps,aO]
theorem Bg{a b:Int×Int}(h:wN a=wN b):a=b:=by
 unfold wN at h
 injection h with h1 h2
 injection h2 with h2 _
 exact wC h1 h2
theorem A2(p:Int×Int): ∀l:List (Int×Int),l.Pairwise (fun a b=>wa a b=true)->(rV p l).Pairwise (fun a b=>wa a b=true)
 | [],_=>y7 _ _
 | q::r,h=>by
  unfold rV
  have h1:=b8.mp h
  split
  ·rename_i e
   refine b8.mpr ⟨fun x hx=> ?_,h⟩
   rcases aO.mp hx with rfl | hx
   ·exact e
   ·exact A0 e (h1.1 x hx)
  ·rename_i e
   split
   ·exact h
   ·rename_i ne
    refine b8.mpr ⟨fun x hx=> ?_,A2 p r h1.2⟩
    rcases(qW p x r).mp hx with rfl | hx
    ·exact DM (fun z=>ne (Bg z)) (Bool.eq_false_iff.mpr e)
    ·exact h1.1 x hx
theorem AO: ∀ps:List (Int×Int),(gC ps).Pairwise (fun a b=>wa a b=true)
 | []=>fk
 | p::ps=>A2 p _ (AO ps)
theorem pw_uniq: ∀{a b:List (Int×Int)},a.Pairwise (fun a b=>wa a b=true)->b.Pairwise (fun a b=>wa a b=true)->(∀x,x∈a↔x∈b)->a=b
 | [], [],_,_,_=>rfl
 | [],y::_,_,_,h=>by have:=(h y).mpr bO; cases this
 | x::_, [],_,_,h=>by have:=(h x).mp bO; cases this
 | x::a,y::b,ha,hb,h=>by
  have a1:=b8.mp ha
  have b1:=b8.mp hb
  have irr: ∀z:Int×Int,wa z z=true->False:=fun z hz=>by have:=DN hz; rw [show ox (wN z) (wN z)=true from hz]at this; cases this
  have exy:x=y:=by
   rcases aO.mp ((h x).mp bO)with e | hx
   ·exact e
   ·rcases aO.mp ((h y).mpr bO)with e | hy
    ·exact e.symm
    ·exact(irr x (A0 (a1.1 y hy) (b1.1 x hx))).elim
  subst exy
  rw [pw_uniq a1.2 b1.2 fun z=> ?_]
  constructor
  ·intro hz
   rcases aO.mp ((h z).mp (bY _ hz))with e | hz'
   ·subst e; exact(irr z (a1.1 z hz)).elim
   ·exact hz'
  ·intro hz
   rcases aO.mp ((h z).mpr (bY _ hz))with e | hz'
   ·subst e; exact(irr z (b1.1 z hz)).elim
   ·exact hz'
theorem BP{ps qs:List (Int×Int)}(h: ∀x,x∈qs↔x∈ps)(hp:qs.Pairwise (fun a b=>wa a b=true)):qs=gC ps:=pw_uniq hp (AO ps) fun x=>(h x).trans (oH x ps).symm
theorem ya(ps:List (Int×Int)):(gC ps).length<=ps.length:=by
 have: ∀(p:Int×Int) l,(rV p l).length<=l.length+1:=fun p l=>by
  induction l with
  | nil=>exact ay _
  | cons q r ih=>
   unfold rV
   split
   ·simp
   ·split
    ·simp
    ·simp; omega
 induction ps with
 | nil=>exact ay _
 | cons p ps ih=>
  have:=this p (gC ps)
  show(rV p (gC ps)).length<=_
  rw [aH]
  omega
def EX(w:World)(l:Addr)(n:Nat)(val:Nat->Int×Int)(T:Nat->Addr):HO:= .ext fun h=> ∃o es ep t, ∃pr:List (Value×List Int),h.get? l=some o/\PF (!qk w) o es ep t/\pr.map (·.1)=es.toList.map (·.2)/\(pr.map (·.2)).Nodup/\
 (∀x∈pr, ∃j,j < n/\x.1=aq (T j)/\x.2=wN (val j))/\ ∀j,j < n-> ∃x∈pr,x.2=wN (val j)
section
variable {X:Cx}{ρ:eZ}{e:Expr}{pos p p2 p3 p4 p5:Pos}
theorem BY(hc:X.calm=true)(hu:X.A.units+16 < cLine):gz X (.type "set") (fun xs H Q=> ∃(q:Addr) (M:MP) (ps:List (Int×Int)),xs= [.ref q]/\oC X.K M H (.lst (ps.map pairD)) (.ref q)/\ps.length<=4/\
  ∀l T,H l=none->(∀j p,ps[j]? =some p->i5 X.K H (T j) (sk p))->Q (.ref l) (upd H l (EX X.w l ps.length (fun j=>ps.getD j (0,0)) T))):=by
 intro pins s σ H xs us Q I r ⟨q,M,ps,e,hq,hl,k⟩
 subst e
 obtain⟨u,rfl,rx⟩:=vals1 r
 cases rx
 obtain⟨q',ys,eq,sq,dn⟩:=hq
 cases eq
 obtain⟨T,hT⟩:=pairs_at dn
 obtain⟨its,r',pl,hz⟩:=I.list sq
 have hlen:=r'.length
 have hdl:=dn.len
 rw [ae]at hdl
 have get: ∀j,j < ps.length->ps[j]? =some (ps.getD j (0,0)):=fun j h=>by rw [ao,ah h]; rfl
 have tk: ∀j,j < ps.length->TK X.prog X.w s.heap (wN (ps.getD j (0,0))) (T j):=fun j h=>Iy I (hT j _ (get j h)).2
 refine Fv (n:=ps.length) (val:=fun j=>wN (ps.getD j (0,0))) (T:=T) (I.ok.hd hc) hu pl.isList (by rw [aB]; omega) hl (fun i hi=> ?_) tk fun h' tkk hS hk=> ?_
 ·obtain⟨h1,_⟩:=hT i _ (get i hi)
  obtain⟨u,hu',ru⟩:=r'.get h1
  rw [show u=aq (T i)from ru]at hu'
  simpa using hu'
 ·obtain⟨o,es,ep,t,S,q1,q2,q3⟩:=hS
  obtain⟨kk,k1,k2,k3⟩:=S.nd
  have le:(es.toList.map (·.2)).length=kk.length:=by rw [ae,ak,k1]
  have key: ∀x∈(es.toList.map (·.2)).zip kk, ∃j,j < ps.length/\x.1=aq (T j)/\x.2=wN (ps.getD j (0,0)):=fun x hx=>by
   obtain⟨i,hi,e1⟩:=dB hx
   have hi2:i < kk.length:=by rw [bK]at hi; omega
   have hk2:kk[i]? =some kk[i]:=ah hi2
   obtain⟨b,e2,e3⟩:=k3 i _ hk2
   obtain⟨j,hj,e4⟩:=q2 _ (by simpa using By e2)
   have eb:b=T j:=by injection e4 with _ z; injection z
   subst eb
   have ek:kk[i]=wN (ps.getD j (0,0)):=n9 e3 ((tk j hj).keep fun o z=>hk _ o (au z) z)
   rw [eP]at e1
   have ev:(es.toList.map (·.2))[i]'(by omega)=aq (T j):=by
    have:es.toList[i]? =some (kU X.prog X.w kk[i],aq (T j)):=by rw [bz]; exact e2
    rw [aV,(aD.mp this).2]
   refine⟨j,hj, ?_, ?_⟩
   ·rw [<-e1]; exact ev
   ·rw [<-e1]; exact ek
  refine⟨.ref s.heap.objs.size,_,I.laid (t':=tkk) (fun b o e=>hk b o (au e) e) (ay _) (o:=EX X.w s.heap.objs.size ps.length (fun j=>ps.getD j (0,0)) T) ⟨⟨o,es,ep,t,(es.toList.map (·.2)).zip kk,S.get,S.pf,Ic (mq le), ?_,key,fun j hj=> ?_⟩,⟨o,S.get⟩,fun h1 h2 ⟨o,es,ep,t,pr,x,r⟩ kk=>⟨o,es,ep,t,pr,kk o x,r⟩⟩,rfl,k _ T I.fresh (fun j p h=>(hT j p h).2)⟩
  ·rw [jh (mq le.symm)]; exact k2
  ·obtain⟨j',hj',he,hv⟩:=q3 j hj
   obtain⟨i,hi,e1⟩:=dB he
   have hi2:i < kk.length:=by rw [ak]at hi; omega
   obtain⟨b,e2,e3⟩:=k3 i _ (ah hi2)
   have e4:es.toList[i]? =some (kU X.prog X.w (wN (ps.getD j' (0,0))),aq (T j')):=by rw [ah hi,e1]
   rw [bz,e2]at e4
   have eb:b=T j':=by injection e4 with z; injection z with _ z; injection z
   subst eb
   have ek:kk[i]=wN (ps.getD j' (0,0)):=n9 e3 ((tk j' hj').keep fun o z=>hk _ o (au z) z)
   refine⟨_,aR (l:=(es.toList.map (·.2)).zip kk) (n:=i) (by rw [bK]; omega), ?_⟩
   rw [eP]
   exact ek.trans hv
theorem vt(hc:X.calm=true):gz X (.builtin "sorted") (fun xs H Q=> ∃(q:Addr) (n:Nat) (val:Nat->Int×Int) (T:Nat->Addr),xs= [.ref q]/\H q=some (EX X.w q n val T)/\(∀j,j < n->i5 X.K H (T j) (sk (val j)))/\
  ∀(l:Addr) (js:List Nat),H l=none->js.length<=4->(∀j∈js,j < n)->(∀j,j < n-> ∃j'∈js,val j'=val j)->js.Pairwise (fun a b=>wa (val a) (val b)=true)->Q (.ref l) (upd H l (.lst (js.map fun j=>V.ref (T j))))):=by
 intro pins s σ H xs us Q I r ⟨q,n,val,T,e,hq,hT,k⟩
 subst e
 obtain⟨u,rfl,rx⟩:=vals1 r
 cases rx
 obtain⟨⟨o,es,ep,t,pr,hg,S,hpr,nd,q2,q3⟩,_⟩:=I.dW q _ hq
 refine xr (I.ok.hd hc) S hg pr hpr (fun x hx=> ?_) nd fun h' tk D out c hD hso hg2 hk=> ?_
 ·obtain⟨j,hj,e1,e2⟩:=q2 x hx
  exact⟨_,e1,by rw [e2]; exact Iy I (hT j hj),by rw [e2]; rfl⟩
 ·obtain⟨qq,hp,hout,hpw⟩:=hso
  have hlen:qq.length<=4:=by
   rw [hp.length_eq]
   have this:pr.length=es.size:=by simpa using congrArg kZ hpr
   rw [this]; exact S.ie
  obtain⟨js,j1,j2,j3⟩: ∃js:List Nat,(∀j∈js,j < n)/\qq=js.map (fun j=>(aq (T j),wN (val j)))/\True:=by
   have hall: ∀x∈qq, ∃j,j < n/\x=(aq (T j),wN (val j)):=fun x hx=>by
    obtain⟨j,hj,e1,e2⟩:=q2 x (hp.mem_iff.mp hx)
    exact⟨j,hj,wC e1 e2⟩
   clear hp hout hpw hlen
   induction qq with
   | nil=>exact⟨[],(fun j hj=>by cases hj),rfl,trivial⟩
   | cons x qq ih=>
    obtain⟨j,hj,rfl⟩:=hall x (.head _)
    obtain⟨js,a1,a2,_⟩:=ih fun x hx=>hall x (.tail _ hx)
    refine⟨j::js,fun i hi=> ?_,by rw [aY, <-a2],trivial⟩
    rcases aO.mp hi with rfl | hi
    ·exact hj
    ·exact a1 i hi
  subst j2
  rw [ae]at hlen
  rw [cp]at hpw
  rw [bV]at hout
  subst hout
  have hval: ∀l:List Nat,Vals (l.map fun j=>V.ref (T j)) (l.map fun j=>aq (T j)):=fun l=>by
   induction l with
   | nil=>exact .nil
   | cons a l ih=>exact .cons rfl ih
  refine⟨.ref D,_,I.laid (t':=tk) hk hD (o:= .lst (js.map fun j=>V.ref (T j))) ⟨by rw [ae]; exact jq (by omega),_,c,hval js,hg2⟩,rfl,k D js (I.dW.fresh hD) hlen j1 (fun j hj=> ?_) hpw⟩
  obtain⟨x,hx,e1⟩:=q3 j hj
  obtain⟨j',hj',rfl⟩:=aQ.mp (hp.mem_iff.mpr hx)
  exact⟨j',hj',Bg e1⟩
theorem xo{K:Frag}{M:MP}{H:Hp}{val:Nat->Int×Int}{T:Nat->Addr}: ∀(js:List Nat),(∀j∈js,i5 K H (T j) (sk (val j)))->cE K M H ((js.map val).map pairD) (js.map fun j=>V.ref (T j))
 | [],_=>rfl
 | j::js,h=>⟨.ref (T j),_,rfl,⟨T j,sk (val j),rfl,h j (.head _),_,_,rfl,rfl,_,_,rfl,rfl,rfl⟩,xo js fun i hi=>h i (.tail _ hi)⟩
theorem ef.sortedSet{ps:List (Int×Int)}(hc:X.calm=true)(hu:X.A.units+16 < cLine)(hg2:Gl X "sorted")(hm2:X.mg "sorted"=none)(hg3:Gl X "set")(hm3:X.mg "set"=none)(h:kT X ρ e (.lst (ps.map pairD)))(hl:ps.length<=4)
  (he:ax [e] X.env= [(false,eval e X.env)]:=by rfl)(he2:ax [.Call (.Name "set" p4) [e] [] p5] X.env= [(false,eval (.Call (.Name "set" p4) [e] [] p5) X.env)]:=by rfl):
  ef X ρ (.Call (.Name "sorted" p2) [.Call (.Name "set" p4) [e] [] p5] [] p3) ((gC ps).map pairD):=fun M0 H0 γ α σ H Q R k=>
 (il (vt hc) hg2 hm2 (by decide +kernel) (dQ (jy (BY hc hu) hg3 hm3 (by decide +kernel) (dQ g8 gD he) (by decide) (by decide) he) gD he2) (by decide) (by decide) he2).to
  (h M0 H0 γ α σ H _ R fun v H1 s1 d1=>by
   obtain⟨q,xs,e1,sq,dn⟩:=id d1
   subst e1
   have get: ∀j,j < ps.length->ps[j]? =some (ps.getD j (0,0)):=fun j h=>by rw [ao,ah h]; rfl
   refine⟨q,_,ps,rfl,d1,hl,fun l T hl1 hT=>⟨l,_,_,T,rfl,bG,fun j hj=>nJ.tup (oF (M:=JW) (bw hl1)) (hT j _ (get j hj)),fun l2 js hl2 hlen hin hcov hpw=> ?_⟩⟩
   have eq:js.map (fun j=>ps.getD j (0,0))=gC ps:=by
    refine BP (fun x=> ?_) (by rw [cp]; exact hpw)
    constructor
    ·intro hx
     obtain⟨j,hj,rfl⟩:=aQ.mp hx
     exact aT (get j (hin j hj))
    ·intro hx
     obtain⟨j,hj,e1⟩:=dB hx
     obtain⟨j',hj',e2⟩:=hcov j hj
     refine aQ.mpr ⟨j',hj', ?_⟩
     rw [e2,ao,ah hj]
     exact e1
   refine k l2 _ _ _ (s1.trans (bw hl1)) hl2 (bw hl2) bG ?_
   rw [<-eq]
   exact xo js fun j hj=>nJ.tup (oF (M:=JW) (bw hl2)) (nJ.tup (oF (M:=JW) (bw hl1)) (hT j _ (get j (hin j hj)))))
theorem az.sortedSetT{ps:List (Int×Int)}(hc:X.calm=true)(hu:X.A.units+16 < cLine)(hg1:Gl X "tuple")(hm1:X.mg "tuple"=none)(hg2:Gl X "sorted")(hm2:X.mg "sorted"=none)(hg3:Gl X "set")(hm3:X.mg "set"=none)(h:kT X ρ e (.lst (ps.map pairD)))(hl:ps.length<=4)
  (he:ax [e] X.env= [(false,eval e X.env)]:=by rfl)(he2:ax [.Call (.Name "set" p4) [e] [] p5] X.env= [(false,eval (.Call (.Name "set" p4) [e] [] p5) X.env)]:=by rfl)
  (he3:ax [.Call (.Name "sorted" p2) [.Call (.Name "set" p4) [e] [] p5] [] p3] X.env= [(false,eval (.Call (.Name "sorted" p2) [.Call (.Name "set" p4) [e] [] p5] [] p3) X.env)]:=by rfl):
  az X ρ (.Call (.Name "tuple" p) [.Call (.Name "sorted" p2) [.Call (.Name "set" p4) [e] [] p5] [] p3] [] pos) (.tup ((gC ps).map pairD)):=az.tupleL hg1 hm1 (az.r (ef.toD (ef.sortedSet hc hu hg2 hm2 hg3 hm3 h hl he he2))) he3
end
structure iw(X:Cx)(N':List Str)(js:List Nat)(scope:Scope)(x y:Str)(cl:List (Str×Addr)):Prop where
 w8:pT scope X.env=pure cl
 cell: ∀y∈scope.names,y.2≠ .cell
 kind:scope.kind= .function
 names: ∀y∈scope.names,y.2= .local->scope.names.lookup y.1=some .local
 own:scope.names.lookup x=some .local
 Kw:scope.names.lookup y=some .local
 hN: ∃r,N'=x::y::r/\r.length=js.length/\ ∀(i:Nat) (y:Str) (j:Nat),r[i]? =some y->js[i]? =some j->X.N[j]? =some y/\X.env.scope.names.lookup y=some .cell/\(jl scope X.env).names.lookup y=some .cell/\ ∀c,X.env.cells.lookup y=some c->cl.lookup y=some c
 sub: ∀y c,cl.lookup y=some c->X.env.cells.lookup y=some c
 has: ∀y,((jl scope X.env).names.lookup y=some .cell\/(jl scope X.env).names.lookup y=some .free)-> ∃c,cl.lookup y=some c
section
variable {X:Cx}{pins:List (Addr×Obj)}{σ:St}{H H':Hp}{s:ai}{N':List Str}{js:List Nat}{scope:Scope}{x y:Str}{cl:List (Str×Addr)}{px pos:Pos}{elt iter:Expr}
theorem iw.cx(ok:iw X N' js scope x y cl)(I:Inv X pins σ H s){fp:List Addr}(hf: ∀b∈fp,g_ X pins H b)(ho: ∀b∈fp,b < s.heap.objs.size):
  (iM X N' scope cl s.heap.objs.size s H fp pins).Ok where
 mod:=I.ok.mod
 kind:=ok.kind
 glob:=I.ok.glob
 blt:=I.ok.blt
 above:=ay _
 inj:=fun y z c h1 h2=>I.ok.inj y z c (ok.sub y c h1) (ok.sub z c h2)
 has:=fun y h=>ok.has y h
 JP:=fun y c h _=>absurd (show false=true from h) aC
 hd:=I.ok.hd
 frames:=I.ok.frames
 ux:= .inl rfl
 Lj:=fun b hb=>⟨aF (ho b hb),fun y c e=>(hf b hb).2.2.2.2.1 y c (ok.sub y c e)⟩
 bs:=I.bs
 zl:=bj I.ok.zl I.sz
 tM:=fun b o e hb=>by
  rcases(hf b hb).2.2.2.1 with z | z
  ·exact I.ok.tM b o e z
  ·exact absurd (aZ (au e) (bj I.ok.zl z)) (df _)
 Cg:=fun b hb=>mQ I (hf b hb).2.1 (hf b hb).2.2.1
 oG:=I.stack
 Hf:=I.stkFree
def Io(σ:St)(js:List Nat):St:=none::none::js.map fun j=>(σ[j]?).join
theorem iw.inv(ok:iw X N' js scope x y cl)(I:Inv X pins σ H s){fp:List Addr}(hf: ∀b∈fp,g_ X pins H b)(ho: ∀b∈fp,b < s.heap.objs.size){h₁:Heap}{tk:Nat}{m:Str->Option Value}
    (hn:h₁.Ns s.heap.objs.size m)(k: ∀b o,s.heap.get? b=some o->h₁.get? b=some o):Inv (iM X N' scope cl s.heap.objs.size s H fp pins) [] (Io σ js) H {s with heap:=h₁,toks:=tk}:=by
  obtain⟨r,rfl,hrl,hr⟩:=ok.hN
  refine⟨ok.cx I hf ho,rfl,I.bare,Un.kept k,⟨m,hn,fun i y v h1 h2 _=> ?_⟩,fun y c e=> ?_,I.dW.fresh (ay _),fun y c e=>I.mh y c (ok.sub y c e),fun p hp=> ?_,I.dW.kept k, ?_⟩
  · cases i with
    | zero=>have h2':(none:Option V)=some v:=aA h2; cases h2'
    | succ i=>
     cases i with
     | zero=>have h2':(none:Option V)=some v:=aA h2; cases h2'
     | succ i=>
      have h1':r[i]? =some y:=h1
      have h2':(js.map fun j=>(σ[j]?).join)[i]? =some (some v):=h2
      rw [aj]at h2'
      cases ej:js[i]? with
      | none=>rw [ej]at h2'; cases h2'
      | some j=>
        rw [ej]at h2'
        have h3:(σ[j]?).join=some v:=aA h2'
        have h4:σ[j]? =some (some v):=by
          cases e:σ[j]? with
          | none=>rw [e]at h3; cases h3
          | some w=>rw [e]at h3; exact congrArg some h3
        obtain⟨q1,q2,q3,q4⟩:=hr i y j h1' ej
        obtain⟨m0,_,hl⟩:=I.loc
        obtain⟨u,ru,lk⟩:=hl j y v q1 h4 (.inr (.inl q2))
        refine⟨u,ru, ?_⟩
        rcases lk with⟨z,_⟩ | ⟨_,c,e1,o,e2,e3⟩
        · have z':X.env.scope.names.lookup y=some .local:=z
          rw [q2]at z'; cases z'
        · exact .inr ⟨.inl q3,c,q4 c e1,o,k _ _ e2,e3⟩
  · obtain⟨v,o,e1,e2⟩:=I.cell y c (ok.sub y c e)
    exact⟨v,o,k _ _ e1,e2⟩
  · have hp':p∈X.pn ++ pins:=by
      have z:p∈(X.pn ++ pins) ++ []:=hp
      rwa [bJ]at z
    obtain⟨e,n,ne,nf,d⟩:=I.pin p hp'
    exact⟨k _ _ e,n,aF (au e),mQ I ne nf,d⟩
  · show(none::none::js.map fun j=>(σ[j]?).join).length=(x::y::r).length
    rw [aH,aH,ae,aH,aH,hrl]
theorem iw.out(ok:iw X N' js scope x y cl)(I:Inv X pins σ H s){fp:List Addr}(hf: ∀b∈fp,g_ X pins H b){σ':St}{s':ai}(J:Inv (iM X N' scope cl s.heap.objs.size s H fp pins) [] σ' H' s'):
  Inv X pins σ H' s'/\g_ X pins H' s.heap.objs.size:=by
 have I':Inv X pins σ H' s':=I.call' (ch:=fp) J.os J.base J.dW J.bare fun b hb=>⟨(hf b hb).2.2.2.1,(hf b hb).2.1,(hf b hb).2.2.2.2.1,(hf b hb).2.2.2.2.2⟩
 exact⟨I',I.fpOk (ay _) J.free⟩
end
section
variable {X:Cx}{pins:List (Addr×Obj)}{σ:St}{H1:Hp}{s₂:ai}{N':List Str}{js:List Nat}{scope:Scope}{x z:Str}{cl:List (Str×Addr)}{px pz pos tp:Pos}{tk:Nat}{elt iter:Expr}{J:It}{fp:List Addr}{it:Addr}{tn:Nat->Heap->Prop}
 {ds:List (D×D)}{es cs:List D}{gs:List (D×V)}{M:MP}{E:Value->ai->Prop}{RR:Value->Addr->Result->ai->Prop}
def oB(d:D×D)(cs:List D):eZ:= .im d.1:: .im d.2::cs.map .im
theorem w9(ok:iw X N' js scope x z cl)(hc:X.calm=true)(hnd:N'.Nodup)(I:Inv X pins σ H1 s₂)(T:Turn X.prog X.w X.K (.Tuple [.Name x px, .Name z pz] tk tp) J fp it tn)(st:tn 0 s₂.heap)(hf: ∀b∈fp,g_ X pins H1 b)
  (hg: ∀p∈gs,Dn X.K M H1 p.1 p.2)(w:Walk X.K J (ds.map fun d=>D.tup [d.1,d.2]) gs)(hl:es.length=ds.length)(hsz:ds.length<=1000000)(hcap:EU X.K M H1 σ js cs)(hM: ∀a,M a->H1 a≠none)
  (helt: ∀(C:Addr) (s₀:ai) (H₀:Hp) (i:Nat) (d:D×D) (e:D),ds[i]? =some d->es[i]? =some e->az (iM X N' scope cl C s₀ H₀ fp pins) (oB d cs) elt e)
  (hRR: ∀(D0 C:Addr) (m:Str->Option Value) (s1:ai) (H:Hp) (ys:List V),Inv X pins σ H s1->s1.heap.Ns C m->g_ X pins H C->H1 D0=none->bP H1 H->H D0=some (.lst ys)->cE X.K (fun a=>M a\/a=D0) H es ys->RR (.ref D0) C (.ok .next) s1):
  wpAny (model X.prog X.w) X.A (u4 []) (fun acc s₃=>wpAny (model X.prog X.w) X.A (newFunctionEnv scope X.env.globals cl [] X.env.qual none .none (some X.env)) (fun cenv s₄=>
   f9 (model X.prog X.w) X.A (.compStart (.ListComp elt [⟨.Tuple [.Name x px, .Name z pz] tk tp,iter, [],0⟩] scope pos) 0 (.ref it) acc {cenv with scope:=jl scope X.env}) (RR acc cenv.locals) s₄) E s₃) E s₂:=by
 refine a_ (wpAny_newFunctionEnv ok.cell (by intro y hy; simp at hy) (fun h₁ hns₁ hsb₁=> ?_) ok.kind)
 dsimp only at hns₁ hsb₁ ⊢
 have hD:H1 s₂.heap.objs.size=none:=I.fresh
 have I3:Inv X pins σ (upd H1 s₂.heap.objs.size (.lst [])) {s₂ with heap:=s₂.heap.push {cls:= .type "list",data:= .seq ([]:List Value).toArray}}:=I.lnew (its:= []) (t':=s₂.toks) (ys:= []) .nil (bW _)
 have obj2: ∀b∈fp, ∃o,s₂.heap.get? b=some o:=fun b hb=>let⟨o,e,_⟩:=T.obj _ _ st b hb; ⟨o,e⟩
 have lt2: ∀b∈fp,b < s₂.heap.objs.size:=fun b hb=>let⟨o,e⟩:=obj2 b hb; au e
 have hf3: ∀b∈fp,g_ X pins (upd H1 s₂.heap.objs.size (.lst [])) b:=fun b hb=>⟨by rw [cu (aF (lt2 b hb))]; exact(hf b hb).1,(hf b hb).2⟩
 generalize hH2:s₂.heap.push {cls:= .type "list",data:= .seq ([]:List Value).toArray}=H2 at I3 hns₁ hsb₁ ⊢
 have sz3:H2.objs.size=s₂.heap.objs.size+1:=by rw [<-hH2,bX]
 have lt3: ∀b∈fp,b < H2.objs.size:=fun b hb=>by rw [sz3]; exact cB (lt2 b hb)
 have k1: ∀b o,H2.get? b=some o->h₁.get? b=some o:=fun b o e=>hsb₁.extBut b o (aF (au e)) (af _ e)
 have k2: ∀b o,s₂.heap.get? b=some o->h₁.get? b=some o:=fun b o e=>k1 b o (by rw [<-hH2]; exact af _ e)
 have I4:=ok.inv (tk:=s₂.toks+([]:List (Str×Value)).length) I3 hf3 lt3 hns₁ k1
 have st4:tn 0 h₁:=T.keep _ _ _ st fun b hb o e=>k2 b o e
 generalize hX:iM X N' scope cl H2.objs.size {s₂ with heap:=H2} (upd H1 s₂.heap.objs.size (.lst [])) fp pins=X' at I4
 have hfp: ∀(H:Hp),(∀b∈fp,H b=none)-> ∀b∈fp,g_ X' [] H b:=fun H hn b hb=>by
  subst hX
  refine⟨hn b hb,aF (lt3 b hb),mQ I3 (hf3 b hb).2.1 (hf3 b hb).2.2.1, .inl hb,fun y c e=>(hf3 b hb).2.2.2.2.1 y c (ok.sub y c e),fun p hp=> ?_⟩
  have z:p∈(X.pn ++ pins) ++ []:=hp
  rw [bJ]at z
  exact(hf3 b hb).2.2.2.2.2 p z
 have out: ∀(H:Hp) (s1:ai) (σ':St),Inv X' [] σ' H s1->Inv X pins σ H s1/\g_ X pins H H2.objs.size:=fun H s1 σ' J=>by
  subst hX
  exact ok.out I3 hf3 J
 have elt': ∀(i:Nat) (d:D×D) (e:D),ds[i]? =some d->es[i]? =some e->az X' (oB d cs) elt e:=fun i d e h1 h2=>by
  subst hX
  exact helt _ _ _ i d e h1 h2
 have env':X'.env=compEnvC scope cl H2.objs.size X.env:=by rw [<-hX]; rfl
 have N0:X'.N=N':=by rw [<-hX]; rfl
 have p1:X'.prog=X.prog:=by rw [<-hX]; rfl
 have p2:X'.w=X.w:=by rw [<-hX]; rfl
 have p3:X'.K=X.K:=by rw [<-hX]; rfl
 have p4:X'.calm=true:=by rw [<-hX]; exact hc
 have p5:X'.A=X.A:=by rw [<-hX]; rfl
 have p6:X'.xe=Fi:=by rw [<-hX]; rfl
 clear hX
 obtain⟨r0,er0,hrl,hr⟩:=ok.hN
 have hN0:X'.N[0]? =some x:=by rw [N0,er0]; rfl
 have hN1:X'.N[1]? =some z:=by rw [N0,er0]; rfl
 have hLoc:X'.env.scope.names.lookup x=some .local:=by rw [env']; exact CW ok.own
 have hLoc1:X'.env.scope.names.lookup z=some .local:=by rw [env']; exact CW ok.Kw
 have hMD: ∀a,(M a\/a=s₂.heap.objs.size)-> ∀H,bP H1 H->(∃ys,H s₂.heap.objs.size=some (.lst ys))->H a≠none:=fun a ha H sm hD' z=>by
  rcases ha with ha | rfl
  ·exact hM a ha (sm.free z)
  ·obtain⟨ys,e⟩:=hD'
   rw [z]at e; cases e
 have loop: ∀s₃:ai,s₃={s₂ with heap:=h₁,toks:=s₂.toks+([]:List (Str×Value)).length}->
   f9 (model X.prog X.w) X.A (.compLoop (.ListComp elt [⟨.Tuple [.Name x px, .Name z pz] tk tp,iter, [],0⟩] scope pos) 0 (.ref it) (.ref s₂.heap.objs.size) (compEnvC scope cl H2.objs.size X.env)) (RR (.ref s₂.heap.objs.size) H2.objs.size) s₃:=by
  intro s₃ es3
  refine ur (fun n s'=> ∃(i:Nat) (ys:List V) (H:Hp) (σ':St),n=ds.length - i/\i<=ds.length/\Inv X' [] σ' H s'/\(∃ov ov',σ'=ov::ov'::(Io σ js).tail.tail)/\tn i s'.heap/\(∀b∈fp,H b=none)/\J_ X.K M H1 es i s₂.heap.objs.size ys H) ?_ ds.length
   ⟨0, [],_,_,rfl,bW _,by rw [es3]; exact I4,⟨none,none,rfl⟩,by rw [es3]; exact st4,fun b hb=>(hf3 b hb).1,bw hD,bG,by rw [iT]; exact rfl⟩
  rintro n s' ⟨i,ys,H,σ',rfl,hi,Iv,⟨ov,ov',eσ⟩,sti,fri,ci⟩
  have gsH: ∀p∈gs,Dn X.K (fun a=>M a\/a=s₂.heap.objs.size) H p.1 p.2:=fun p hp=>((hg p hp).re fun a m=>m.elim .inl fun z=> .inr (by rw [z]; exact hD)).same ci.same
  obtain⟨w1,w2⟩:=w _ H gsH
  have item:=T.item X' p1 p2 p3 p4 i [] s' σ' H Fi Iv (hfp H fri) sti
  have done:=T.done X' p1 p2 p3 p4 i [] s' σ' H Fi Iv (hfp H fri) sti
  rw [p5]at item done
  by_cases hlt:i < ds.length
  ·obtain⟨g1,g2⟩:=w1 i (D.tup [ds[i].1,ds[i].2]) (by rw [aj,ah hlt]; rfl)
   refine eQ (item g1) fun r s4 ⟨u,hr',h4⟩=> ?_
   subst hr'
   refine eQ h4 fun _ s5 ⟨y,H5,I5,r5,y5,st5,fr5⟩=> ?_
   obtain⟨sm5,d5⟩:=g2 y H5 y5
   have I5':=I5.pinned (hfp H5 fr5) (T.obj _ _ st5)
   obtain⟨ta,tv,rfl,tsq,y1,tr1,rfl,dd1,y2,tr2,rfl,dd2,rfl⟩:=d5
   have nd':X'.N.Nodup:=by rw [N0]; exact hnd
   have pgt:=ET (X:=X') (pos:=tp) (k:=tk) p4 (oS (lA (pos:=px) (i:=0) nd' hN0 (.inl hLoc) (.inr hLoc)) (oS (lA (pos:=pz) (i:=1) nd' hN1 (.inl hLoc1) (.inr hLoc1)) AD))
   have asg:=pgt _ s5 σ' H5 (.ref ta) u (fun σ6 H6=>σ6=(σ'.set 0 (some y1)).set 1 (some y2)/\H6=H5) I5' r5 ⟨ta,_,rfl,by rw [p3]; exact tsq,rfl,y1,_,rfl,y2,_,rfl,rfl,rfl,rfl⟩
   rw [p1,p2,p5,p6,env']at asg
   refine eQ asg fun _ s6 ⟨σ6,H6,I6,e6,e6'⟩=> ?_
   subst e6 e6'
   have ei:es[i]? =some (es[i]'(by rw [hl]; exact hlt)):=ah _
   have ev:=elt' i _ _ (ah hlt) ei
   have sm15:bP H1 H6:=ci.same.trans sm5
   have hD5:H6 s₂.heap.objs.size=some (.lst ys):=sm5 _ _ ci.at_
   have Rp:Rep X'.K (fun a=>M a\/a=s₂.heap.objs.size) H6 [] (fun _=>0) (oB ds[i] cs) ((σ'.set 0 (some y1)).set 1 (some y2)) H6:=by
    refine⟨bP.refl _,fun a ha=>hMD a ha H6 sm15 ⟨ys,hD5⟩,fun k l fs gs' e1=> ?_,fun k d0 e1=> ?_,fun k fs e1=> ?_,(fun p hp=>by cases hp), ?_⟩
    ·exfalso
     unfold oB at e1
     match k,e1 with
     | 0,e1=>cases aA e1
     | 1,e1=>cases aA e1
     | k+2,e1=>
      rw [bF,bF,aj]at e1
      cases z:cs[k]? with
      | none=>rw [z]at e1; cases e1
      | some c=>rw [z]at e1; cases aA e1
    ·have mmM: ∀a,MM (fun a=>M a\/a=s₂.heap.objs.size) (oB ds[i] cs) (fun _=>0) a->(M a\/a=s₂.heap.objs.size):=fun a ha=>by
      rcases ha with ha | ⟨k',fs,e2,_⟩
      ·exact ha
      ·exfalso
       unfold oB at e2
       match k',e2 with
       | 0,e2=>cases aA e2
       | 1,e2=>cases aA e2
       | k'+2,e2=>
        rw [bF,bF,aj]at e2
        cases z:cs[k']? with
        | none=>rw [z]at e2; cases e2
        | some c=>rw [z]at e2; cases aA e2
     subst eσ
     unfold oB at e1
     match k,e1 with
     | 0,e1=>
      have z:Sl.im ds[i].1=Sl.im d0:=aA e1
      cases z
      refine⟨y1,rfl, ?_⟩
      rw [p3]
      exact dd1.less mmM
     | 1,e1=>
      have z:Sl.im ds[i].2=Sl.im d0:=aA e1
      cases z
      refine⟨y2,rfl, ?_⟩
      rw [p3]
      exact dd2.less mmM
     | k+2,e1=>
      rw [bF,bF,aj]at e1
      cases z:cs[k]? with
      | none=>rw [z]at e1; cases e1
      | some c=>
       rw [z]at e1
       have z':Sl.im c=Sl.im d0:=aA e1
       have hk:k < js.length:=by rw [hcap.1]; exact(aD.mp z).1
       obtain⟨v,hv,dv⟩:=hcap.2 k js[k] c (ah hk) z
       cases z'
       refine⟨v, ?_, ?_⟩
       ·show(js.map fun j=>(σ[j]?).join)[k]? =some (some v)
        rw [aj,ah hk]
        show some (σ[js[k]]?).join=_
        rw [hv]
        rfl
       ·rw [p3]
        exact(((dv.re fun a m=>m.elim .inl fun q=> .inr (by rw [q]; exact hD)).same sm15)).less mmM
    ·exfalso
     unfold oB at e1
     match k,e1 with
     | 0,e1=>cases aA e1
     | 1,e1=>cases aA e1
     | k+2,e1=>
      rw [bF,bF,aj]at e1
      cases z:cs[k]? with
      | none=>rw [z]at e1; cases e1
      | some c=>rw [z]at e1; cases aA e1
    ·subst eσ
     rw [bo,bo]
     show(js.map fun j=>(σ[j]?).join).length+1+1=(cs.map Sl.im).length+1+1
     rw [ae,ae,hcap.1]
   have evw:=ev _ H6 [] (fun _=>0) _ H6 (fun v H'=>bP H6 H'/\Dn X.K (fun a=>M a\/a=s₂.heap.objs.size) H' (es[i]'(by rw [hl]; exact hlt)) v) Rp (fun v H' sm dn=>⟨sm,by
    rw [p3]at dn
    exact dn.less fun a ha=> .inl ha⟩) _ s6 I6
   rw [p1,p2,p5,p6,env']at evw
   refine eQ evw fun yv s7 ⟨v,H7,I7,r7,sm7,dn7⟩=> ?_
   have ap:=kM (X:=X') _ s7 _ H7 (.ref s₂.heap.objs.size) [v] (.ref s₂.heap.objs.size) [yv] (fun _ H8=>H8=upd H7 s₂.heap.objs.size (.lst (ys ++ [v]))) I7 rfl (.cons r7 .nil)
    ⟨_,ys,v,rfl,rfl,sm7 _ _ hD5,by rw [ci.dn.len,br]; exact iB (bj (IL _ _) (by omega)) (by decide:(1000000:Nat) < sizeLine),rfl⟩
   rw [p1,p2,p5,p6]at ap
   refine eQ ap fun _ s8 ⟨_,H8,I8,_,e8⟩=> ?_
   subst e8
   refine⟨ds.length - (i+1),by omega,i+1,ys ++ [v],_,_,rfl,hlt,I8.unpinned,⟨some y1,some y2,by rw [eσ]; rfl⟩,
    T.keep _ _ _ st5 fun b hb o e=>(I8.pin (b,o) (bx _ (bx _ (iJ hb e)))).1,fun b hb=> ?_, ?_⟩
   ·obtain⟨o,e,_⟩:=T.obj _ _ st5 b hb
    exact(I8.pin (b,o) (bx _ (bx _ (iJ hb e)))).2.1
   ·refine⟨gU (sm15.trans sm7) hD,bG, ?_⟩
    have kp:nJ (fun a=>M a\/a=s₂.heap.objs.size) H7 (upd H7 s₂.heap.objs.size (.lst (ys ++ [v]))):=fun b o e n=>by
     by_cases hb:b=s₂.heap.objs.size
     ·subst hb
      rw [sm7 _ _ hD5]at e; cases e
      exact absurd (.inr rfl) (n _ rfl)
     ·rw [cu hb]; exact e
    rw [ft,ei]
    exact(cE.app (ci.dn.same (sm5.trans sm7)) (cE.one dn7)).keep kp
  ·have e:i=ds.length:=by omega
   subst e
   refine eQ (done (by rw [ae]at w2; exact w2)) fun r s4 ⟨hr',I5⟩=> ?_
   subst hr'
   obtain⟨o1,o2⟩:=out H s4 σ' I5
   obtain⟨m,hn,_⟩:=I5.loc
   rw [env']at hn
   refine hRR _ _ m s4 H ys o1 hn o2 hD ci.same ci.at_ ?_
   have:=ci.dn
   rw [<-hl,eO]at this
   exact this
 exact codeAny_compStart_list (loop _ rfl) (T.self X.A 0 _ _ _ st4 (loop _ rfl))
end
theorem iw.cap1{X:Cx}{scope:Scope}{x x2 y:Str}{c:Addr}{j:Nat}{pre post rn:List (Str×iP)}(hs:scope.names=pre ++ (y, .free)::post)(h1: ∀z∈pre,z.2≠ .free)(h2: ∀z∈post,z.2≠ .free)(hcl:X.env.cells.lookup y=some c)
  (hc: ∀z∈scope.names,z.2≠ .cell)(hk:scope.kind= .function)(hn: ∀y∈scope.names,y.2= .local->scope.names.lookup y.1=some .local)(ho:scope.names.lookup x=some .local)(ho2:scope.names.lookup x2=some .local)(hj:X.N[j]? =some y)(hy:X.env.scope.names.lookup y=some .cell)
  (hrel:(jl scope X.env).names=rn)(hrn:rn.lookup y=some .cell)(hall: ∀z∈rn,(z.2= .cell\/z.2= .free)->z.1=y):iw X [x,x2,y] [j] scope x x2 [(y,c)] where
 w8:=l0 hs h1 h2 hcl
 cell:=hc
 kind:=hk
 names:=hn
 own:=ho
 Kw:=ho2
 hN:=⟨[y],rfl,rfl,fun i z k e1 e2=>by
  cases i with
  | zero=>
   have e1':y=z:=by simpa using e1
   have e2':j=k:=by simpa using e2
   subst e1' e2'
   refine⟨hj,hy,by rw [hrel]; exact hrn,fun c' e=> ?_⟩
   rw [hcl]at e
   cases e
   simp
  | succ i=>simp at e1⟩
 sub:=fun z d h=>by
  rw [fX]at h
  cases hb:z==y with
  | true=>
   rw [hb]at h
   cases h
   rw [beq_iff_eq.mp hb]
   exact hcl
  | false=>rw [hb]at h; simp at h
 has:=fun z h=>by
  rw [hrel]at h
  have:z=y:=by
   rcases h with h | h
   ·exact hall _ (b9 h) (.inl rfl)
   ·exact hall _ (b9 h) (.inr rfl)
  subst this
  exact⟨c,by simp⟩
end Z
namespace Z
open PySem PySem.Spec PyProof.Rows
section
variable {prog:av}{w:World}{A:bC}{E:Value->ai->Prop}{s:ai}
theorem j5{it t:Addr}{i:Nat}{items:Array Value}{x:Value}{Q:Value->ai->Prop}(hit:s.heap.IsListIter it t i)(ht:s.heap.IsList t items)(hx:items[i]? =some x)
  (hQ: ∀h',h'.IsListIter it t (i+1)->aW it s.heap h'->Q x {s with heap:=h'}):wpAny (model prog w) A (aG (.ref it)) Q E s:=by
 obtain⟨o,ho,hc,hd⟩:=id hit
 obtain⟨ol,hol,_,nl,hdl⟩:=ht
 have hT:s.TypeIs (.ref it) "list_iterator":=⟨o,ho,hc⟩
 unfold aG
 refine aa (bM (name:=dP "__next__") hT lJ (bh lJ hT PySem.entry_listiter_next ?_ (PySem.args_listiter_next _)))
 show wpAny _ _ (field (.ref it) 0 >>=_) _ _ s
 refine aa (aU ho hd (x:= .ref t) rfl ?_)
 show wpAny _ _ (if(aq t==bf)=true then _ else _) _ _ s
 rw [if_neg (show ¬((aq t==bf)=true)from aC)]
 show wpAny _ _ (field (.ref it) 1 >>=_) _ _ s
 refine aa (aU ho hd (x:= .int i 0) rfl ?_)
 show wpAny _ _ (seqItems? (.ref t) >>=_) _ _ s
 refine aa (bR hol hdl ?_)
 simp only [bU,hx]
 refine aa (cY ho hd (by simp) (ag ⟨x,rfl,ag (hQ _ ?_ (bu ..))⟩))
 exact⟨_,cU _ ho (i9 (f_ hd _)),(Gg ..).trans hc,by rw [f_ hd]; simp [dI]⟩
theorem lK{it t:Addr}{i:Nat}{items:Array Value}{Q:Value->ai->Prop}(hh:A.handled=none)(hit:s.heap.IsListIter it t i)(ht:s.heap.IsList t items)(hx:items[i]? =none)
  (hE: ∀h' e,tm it s.heap h'->(∃o,h'.get? e=some o/\o.cls= .type "StopIteration")->E (.ref e) {s with heap:=h'}):wpAny (model prog w) A (aG (.ref it)) Q E s:=by
 obtain⟨o,ho,hc,hd⟩:=id hit
 obtain⟨ol,hol,_,nl,hdl⟩:=ht
 have hT:s.TypeIs (.ref it) "list_iterator":=⟨o,ho,hc⟩
 unfold aG
 refine aa (bM (name:=dP "__next__") hT lJ (bh lJ hT PySem.entry_listiter_next ?_ (PySem.args_listiter_next _)))
 show wpAny _ _ (field (.ref it) 0 >>=_) _ _ s
 refine aa (aU ho hd (x:= .ref t) rfl ?_)
 show wpAny _ _ (if(aq t==bf)=true then _ else _) _ _ s
 rw [if_neg (show ¬((aq t==bf)=true)from aC)]
 show wpAny _ _ (field (.ref it) 1 >>=_) _ _ s
 refine aa (aU ho hd (x:= .int i 0) rfl ?_)
 show wpAny _ _ (seqItems? (.ref t) >>=_) _ _ s
 refine aa (bR hol hdl ?_)
 simp only [bU,hx]
 refine aa (c7 (aa (cY ho hd (by simp) ?_)))
 show wpAny _ _ (oh (.type "StopIteration") [] >>=_) _ _ _
 refine aa ?_
 simp only [oh,newTuple]
 refine aa (a_ ?_ (by size_fits))
 refine aa (m:=eV _ _) (n_ (a:=bf) (by first | rfl | (simp only [eV]; rfl)) ?_)
 refine a_ ?_ (by size_fits)
 simp only [wI]
 refine aa (o6 ?_)
 rw [show A.in1.handled=none from hh]
 refine aa (ag (tq ?_))
 exact hE _ _ (((bu ..).extBut.push _).push _) ⟨_,ar _ rfl,rfl⟩
theorem zA{z TI TO i1 i2 t1 t2:Addr}{k:Nat}{xs ys:Array Value}{x y:Value}{Q:Value->ai->Prop}(D:BS z TI TO i1 i2)(D1:t1≠z/\t1≠TO/\t1≠i1/\t1≠i2)(D2:t2≠z/\t2≠TO/\t2≠i1/\t2≠i2)(hZ:iu s.heap z TI TO i1 i2)
  (h1:s.heap.IsListIter i1 t1 k)(h2:s.heap.IsTupleIter i2 t2 k)(ht1:s.heap.IsList t1 xs)(ht2:s.heap.IsTuple t2 ys)(hx:xs[k]? =some x)(hy:ys[k]? =some y)
  (hQ: ∀h',iu h' z TI TO i1 i2->h'.IsListIter i1 t1 (k+1)->h'.IsTupleIter i2 t2 (k+1)->eW h' s.heap.objs.size x y->
   (∀c o,c≠z->c≠TO->c≠i1->c≠i2->s.heap.get? c=some o->h'.get? c=some o)->Q (.ref s.heap.objs.size) {s with heap:=h'}):
  wpAny (model prog w) A (cP.«zip.__next__» ⟨[.ref z], []⟩) (fun fin s'=> ∃v,fin= .done (.ret v)/\Q v s') E s:=by
 obtain⟨⟨f0,f1,hz,hf0⟩,hTI,a,b,hTO⟩:=hZ
 have eb1: ∀{h h':Heap} {c t:Addr} {j:Nat} {d:Addr},h.IsListIter c t j->aW d h h'->c≠d->h'.IsListIter c t j:=fun{h h' c t j d} ⟨o,e,r⟩ sb n=>⟨o,(sb.2 c n).trans e,r⟩
 have et1: ∀{h h':Heap} {t:Addr} {is:Array Value} {d:Addr},h.IsList t is->aW d h h'->t≠d->h'.IsList t is:=fun{h h' t is d} ⟨o,e,r⟩ sb n=>⟨o,(sb.2 t n).trans e,r⟩
 have eb: ∀{h h':Heap} {c t:Addr} {j:Nat} {d:Addr},h.IsTupleIter c t j->aW d h h'->c≠d->h'.IsTupleIter c t j:=fun{h h' c t j d} ⟨o,e,r⟩ sb n=>⟨o,(sb.2 c n).trans e,r⟩
 have et: ∀{h h':Heap} {t:Addr} {is:Array Value} {d:Addr},h.IsTuple t is->aW d h h'->t≠d->h'.IsTuple t is:=fun{h h' t is d} ⟨o,e,r⟩ sb n=>⟨o,(sb.2 t n).trans e,r⟩
 have free:wpAny (model prog w) A (ba (.ref z)) (fun fr s1=> ∃h' f1',s1={s with heap:=h'}/\aW z s.heap h'/\h'.get? z=some {cls:= .type "zip",dict:=none,data:= .fields #[f0, .bool f1', .bool false, .ref TI, .ref TO],slots:= #[]}) E s:=by
  unfold ba
  have es:s={s with heap:=s.heap}:=by cases s; rfl
  rcases hf0 with rfl | ⟨T,rfl⟩
  ·exact aa (aU hz rfl (x:= .none) rfl (ag ⟨s.heap,f1,es,bN _ _,hz⟩))
  ·refine aa (aU hz rfl (x:=dI T) rfl ?_)
   show wpAny _ _ (do
    if(<-oj (T:Int).toNat).isNone then return true
    if(<-field (.ref z) 1) != .bool true then fw (.ref z) 1 (.bool true)
    return false) _ _ _
   refine aa (lg fun r=> ?_)
   cases r with
   | none=>
    simp only [pW,if_true]
    exact ag ⟨s.heap,f1,es,bN _ _,hz⟩
   | some ob=>
    simp only [pX,aS,if_false]
    refine aa (aU hz rfl (x:= .bool f1) rfl ?_)
    refine cG (fun _=> ?_) fun _=>ag ⟨s.heap,f1,es,bN _ _,hz⟩
    exact aa (a9 hz (by simp) fun h₁ hz₁ hs₁=>ag ⟨h₁,true,rfl,hs₁,hz₁⟩)
 show wpAny _ _ (field (.ref z) 2 >>=_) _ _ _
 refine aa (aU hz rfl (x:= .bool false) rfl ?_)
 show wpAny _ _ (field (.ref z) 3 >>=_) _ _ _
 refine aa (aU hz rfl (x:= .ref TI) rfl ?_)
 refine aa (bR hTI rfl ?_)
 show wpAny _ _ (ba (.ref z) >>=_) _ _ _
 refine aa (cF free (fun fr s1 hfr=> ?_) fun _ _ x=>x)
 obtain⟨h₀,f1',rfl,hs₀,hz₀⟩:=hfr
 have hTO₀:eW h₀ TO a b:=(hs₀.2 _ D.TOz).trans hTO
 have h1₀:=eb1 h1 hs₀ D.i1z
 have h2₀:=eb h2 hs₀ D.i2z
 have ht1₀:=et1 ht1 hs₀ D1.1
 have ht2₀:=et ht2 hs₀ D2.1
 have hTI₀:eW h₀ TI (.ref i1) (.ref i2):=(hs₀.2 _ D.TIz).trans hTI
 have hsz₀:h₀.objs.size=s.heap.objs.size:=hs₀.1
 cases fr with
 | true=>
  simp only [if_true]
  refine aa (c7 ?_)
  refine aa (aU hz₀ rfl (x:= .ref TO) rfl ?_)
  refine aa (a9 hz₀ (by simp) fun h₁ hz₁ hs₁=> ?_)
  refine aa ?_
  simp only [lS,ug,cj,dq]
  refine aa (aa (h_ ?_))
  show wpAny _ _ (aG (.ref i1) >>=_) _ _ _
  refine aa (j5 (eb1 h1₀ hs₁ D.i1z) (et1 ht1₀ hs₁ D1.1) hx fun h₂ h1₂ hs₂=>ag ?_)
  have hTO₂:eW h₂ TO a b:=(hs₂.2 _ D.TOi1).trans ((hs₁.2 _ D.TOz).trans hTO₀)
  refine aa (bR hTO₂ rfl ?_)
  refine aa (gR hTO₂ fun h₃ hTO₃ hs₃=> ?_)
  replace hTO₃:eW h₃ TO x b:=hTO₃
  refine aa (k8 (ag ?_))
  refine aa (aa (h_ ?_))
  show wpAny _ _ (aG (.ref i2) >>=_) _ _ _
  refine aa (gA (eb (eb (eb h2₀ hs₁ D.i2z) hs₂ D.i12.symm) hs₃ D.TOi2.symm) (et (et (et ht2₀ hs₁ D2.1) hs₂ D2.2.2.1) hs₃ D2.2.1) hy fun h₄ h2₄ hs₄=>ag ?_)
  have hTO₄:eW h₄ TO x b:=(hs₄.2 _ D.TOi2).trans hTO₃
  refine aa (bR hTO₄ rfl ?_)
  refine aa (gR hTO₄ fun h₅ hTO₅ hs₅=> ?_)
  replace hTO₅:eW h₅ TO x y:=hTO₅
  refine aa (k8 (ag (ag ?_)))
  refine aa (bR hTO₅ rfl ?_)
  refine aa (ku ?_)
  have hsz:h₅.objs.size=s.heap.objs.size:=by rw [hs₅.1,hs₄.1,hs₃.1,hs₂.1,hs₁.1,hsz₀]
  have k05: ∀c,c≠z->c≠TO->c≠i1->c≠i2->h₅.get? c=s.heap.get? c:=fun c c1 c2 c3 c4=>by
   rw [hs₅.2 c c2,hs₄.2 c c4,hs₃.2 c c2,hs₂.2 c c3,hs₁.2 c c1,hs₀.2 c c1]
  have hz₅:h₅.get? z=h₁.get? z:=by rw [hs₅.2 z D.TOz.symm,hs₄.2 z D.i2z.symm,hs₃.2 z D.TOz.symm,hs₂.2 z D.i1z.symm]
  rw [hz₁]at hz₅
  have h1₅:h₅.IsListIter i1 t1 (k+1):=eb1 (eb1 (eb1 h1₂ hs₃ D.TOi1.symm) hs₄ D.i12) hs₅ D.TOi1.symm
  have h2₅:h₅.IsTupleIter i2 t2 (k+1):=eb h2₄ hs₅ D.TOi2.symm
  show wpAny _ _ (gZ (.ref z) (.ref h₅.objs.size) >>=_) _ _ _
  refine aa ?_
  unfold gZ
  have hz₆:(h₅.push {cls:= .type "tuple",data:= .seq #[x,y]}).get? z=_:=af _ hz₅
  refine aa (a9 hz₆ (by simp) fun h₇ hz₇ hs₇=> ?_)
  refine a9 hz₇ (by simp) fun h₈ hz₈ hs₈=> ?_
  have up: ∀c o,c≠z->h₅.get? c=some o->h₈.get? c=some o:=fun c o c1 e=>(hs₈.2 c c1).trans ((hs₇.2 c c1).trans (af _ e))
  have hzlt:z < h₅.objs.size:=au hz₅
  have hT₈:eW h₈ h₅.objs.size x y:=(hs₈.2 _ (bH hzlt)).trans ((hs₇.2 _ (bH hzlt)).trans (ar _ rfl))
  refine ag ⟨_,rfl, ?_⟩
  show Q (.ref h₅.objs.size) _
  rw [hsz]at hT₈ ⊢
  refine hQ h₈ ⟨⟨_,_,hz₈, .inr ⟨h₅.objs.size,rfl⟩⟩,up _ _ D.TIz ((k05 TI D.TIz D.TITO D.TIi1 D.TIi2).trans hTI),x,y,up _ _ D.TOz hTO₅⟩ ?_ ?_ hT₈ fun c o c1 c2 c3 c4 e=>up c o c1 ((k05 c c1 c2 c3 c4).trans e)
  ·obtain⟨o,e,r⟩:=h1₅; exact⟨o,up _ _ D.i1z e,r⟩
  ·obtain⟨o,e,r⟩:=h2₅; exact⟨o,up _ _ D.i2z e,r⟩
 | false=>
  simp only [aS,if_false]
  rw [<-dM]
  refine aa ?_
  show wpAny _ _ (forIn [aq i1,aq i2] _ _) _ _ _
  simp only [cj,dq]
  refine aa (aa (bq ?_))
  show wpAny _ _ (aG (.ref i1) >>=_) _ _ _
  refine aa (j5 h1₀ ht1₀ hx fun h₂ h1₂ hs₂=>ag (ag ?_))
  refine aa (aa (bq ?_))
  show wpAny _ _ (aG (.ref i2) >>=_) _ _ _
  refine aa (gA (eb h2₀ hs₂ D.i12.symm) (et ht2₀ hs₂ D2.2.2.1) hy fun h₄ h2₄ hs₄=>ag (ag (ag ?_)))
  dsimp only
  refine aa (ku (ag ⟨_,rfl, ?_⟩) (by show 2<=sizeLine; decide))
  have hsz:h₄.objs.size=s.heap.objs.size:=by rw [hs₄.1,hs₂.1,hsz₀]
  show Q (.ref h₄.objs.size) {s with heap:=h₄.push {cls:= .type "tuple",data:= .seq #[x,y]}}
  have hT:eW (h₄.push {cls:= .type "tuple",data:= .seq #[x,y]}) h₄.objs.size x y:=ar _ rfl
  have up: ∀c,c≠z->c≠i1->c≠i2-> ∀o,s.heap.get? c=some o->(h₄.push {cls:= .type "tuple",data:= .seq #[x,y]}).get? c=some o:=fun c c1 c2 c3 o e=>af _ ((hs₄.2 c c3).trans ((hs₂.2 c c2).trans ((hs₀.2 c c1).trans e)))
  have hz₄:h₄.get? z=h₀.get? z:=by rw [hs₄.2 z D.i2z.symm,hs₂.2 z D.i1z.symm]
  rw [hz₀]at hz₄
  rw [hsz]at hT ⊢
  refine hQ _ ⟨⟨_,_,af _ hz₄,hf0⟩,up _ D.TIz D.TIi1 D.TIi2 _ hTI,a,b,up _ D.TOz D.TOi1 D.TOi2 _ hTO⟩ ?_ ?_ hT fun c o c1 _ c3 c4 e=>up c c1 c3 c4 o e
  ·obtain⟨o,e,r⟩:=eb1 h1₂ hs₄ D.i12; exact⟨o,af _ e,r⟩
  ·obtain⟨o,e,r⟩:=h2₄; exact⟨o,af _ e,r⟩
theorem Cc{z TI TO i1 i2 t1 t2:Addr}{k:Nat}{xs ys:Array Value}{Q:Fin->ai->Prop}(hh:A.handled=none)(D:BS z TI TO i1 i2)(D1:t1≠z/\t1≠TO/\t1≠i1/\t1≠i2)(D2:t2≠z/\t2≠TO/\t2≠i1/\t2≠i2)(hZ:iu s.heap z TI TO i1 i2)
  (h1:s.heap.IsListIter i1 t1 k)(h2:s.heap.IsTupleIter i2 t2 k)(ht1:s.heap.IsList t1 xs)(ht2:s.heap.IsTuple t2 ys)(hend:xs[k]? =none\/ys[k]? =none)
  (hE: ∀h' e,(∀c o,c≠z->c≠TO->c≠i1->c≠i2->s.heap.get? c=some o->h'.get? c=some o)->(∃o,h'.get? e=some o/\o.cls= .type "StopIteration")->E (.ref e) {s with heap:=h'}):
  wpAny (model prog w) A (cP.«zip.__next__» ⟨[.ref z], []⟩) Q E s:=by
 obtain⟨⟨f0,f1,hz,hf0⟩,hTI,a,b,hTO⟩:=hZ
 have eb1: ∀{h h':Heap} {c t:Addr} {j:Nat} {d:Addr},h.IsListIter c t j->aW d h h'->c≠d->h'.IsListIter c t j:=fun{h h' c t j d} ⟨o,e,r⟩ sb n=>⟨o,(sb.2 c n).trans e,r⟩
 have et1: ∀{h h':Heap} {t:Addr} {is:Array Value} {d:Addr},h.IsList t is->aW d h h'->t≠d->h'.IsList t is:=fun{h h' t is d} ⟨o,e,r⟩ sb n=>⟨o,(sb.2 t n).trans e,r⟩
 have eb: ∀{h h':Heap} {c t:Addr} {j:Nat} {d:Addr},h.IsTupleIter c t j->aW d h h'->c≠d->h'.IsTupleIter c t j:=fun{h h' c t j d} ⟨o,e,r⟩ sb n=>⟨o,(sb.2 c n).trans e,r⟩
 have et: ∀{h h':Heap} {t:Addr} {is:Array Value} {d:Addr},h.IsTuple t is->aW d h h'->t≠d->h'.IsTuple t is:=fun{h h' t is d} ⟨o,e,r⟩ sb n=>⟨o,(sb.2 t n).trans e,r⟩
 have free:wpAny (model prog w) A (ba (.ref z)) (fun fr s1=> ∃h' f1',s1={s with heap:=h'}/\aW z s.heap h'/\h'.get? z=some {cls:= .type "zip",dict:=none,data:= .fields #[f0, .bool f1', .bool false, .ref TI, .ref TO],slots:= #[]}) E s:=by
  unfold ba
  have es:s={s with heap:=s.heap}:=by cases s; rfl
  rcases hf0 with rfl | ⟨T,rfl⟩
  ·exact aa (aU hz rfl (x:= .none) rfl (ag ⟨s.heap,f1,es,bN _ _,hz⟩))
  ·refine aa (aU hz rfl (x:=dI T) rfl ?_)
   show wpAny _ _ (do
    if(<-oj (T:Int).toNat).isNone then return true
    if(<-field (.ref z) 1) != .bool true then fw (.ref z) 1 (.bool true)
    return false) _ _ _
   refine aa (lg fun r=> ?_)
   cases r with
   | none=>
    simp only [pW,if_true]
    exact ag ⟨s.heap,f1,es,bN _ _,hz⟩
   | some ob=>
    simp only [pX,aS,if_false]
    refine aa (aU hz rfl (x:= .bool f1) rfl ?_)
    refine cG (fun _=> ?_) fun _=>ag ⟨s.heap,f1,es,bN _ _,hz⟩
    exact aa (a9 hz (by simp) fun h₁ hz₁ hs₁=>ag ⟨h₁,true,rfl,hs₁,hz₁⟩)
 show wpAny _ _ (field (.ref z) 2 >>=_) _ _ _
 refine aa (aU hz rfl (x:= .bool false) rfl ?_)
 show wpAny _ _ (field (.ref z) 3 >>=_) _ _ _
 refine aa (aU hz rfl (x:= .ref TI) rfl ?_)
 refine aa (bR hTI rfl ?_)
 show wpAny _ _ (ba (.ref z) >>=_) _ _ _
 refine aa (cF free (fun fr s1 hfr=> ?_) fun _ _ x=>x)
 obtain⟨h₀,f1',rfl,hs₀,hz₀⟩:=hfr
 have hTO₀:eW h₀ TO a b:=(hs₀.2 _ D.TOz).trans hTO
 have h1₀:=eb1 h1 hs₀ D.i1z
 have h2₀:=eb h2 hs₀ D.i2z
 have ht1₀:=et1 ht1 hs₀ D1.1
 have ht2₀:=et ht2 hs₀ D2.1
 cases fr with
 | true=>
  simp only [if_true]
  refine aa (c7 ?_)
  refine aa (aU hz₀ rfl (x:= .ref TO) rfl ?_)
  refine aa (a9 hz₀ (by simp) fun h₁ hz₁ hs₁=> ?_)
  refine aa ?_
  simp only [lS,ug,cj,dq]
  refine aa (aa (h_ ?_))
  show wpAny _ _ (aG (.ref i1) >>=_) _ _ _
  cases hx:xs[k]? with
  | none=>
   refine aa (lK hh (eb1 h1₀ hs₁ D.i1z) (et1 ht1₀ hs₁ D1.1) hx fun h₂ e hs₂ he=> ?_)
   obtain⟨oe,hoe,hce⟩:=he
   have hz₂:=hs₂ _ _ D.i1z.symm hz₁
   have hez:e≠z:=fun x=>by subst x; rw [hz₂]at hoe; cases hoe; simp at hce
   refine a9 hz₂ (by simp) fun h₃ _ hs₃=>hE h₃ e (fun c o c1 _ c3 _ x=>(hs₃.2 c c1).trans (hs₂ _ _ c3 ((hs₁.2 c c1).trans ((hs₀.2 c c1).trans x)))) ⟨oe,(hs₃.2 _ hez).trans hoe,hce⟩
  | some x=>
   have hy:ys[k]? =none:=by rcases hend with h | h; rw [hx]at h; cases h; exact h
   refine aa (j5 (eb1 h1₀ hs₁ D.i1z) (et1 ht1₀ hs₁ D1.1) hx fun h₂ h1₂ hs₂=>ag ?_)
   have hTO₂:eW h₂ TO a b:=(hs₂.2 _ D.TOi1).trans ((hs₁.2 _ D.TOz).trans hTO₀)
   refine aa (bR hTO₂ rfl ?_)
   refine aa (gR hTO₂ fun h₃ hTO₃ hs₃=> ?_)
   refine aa (k8 (ag ?_))
   refine aa (aa (h_ ?_))
   show wpAny _ _ (aG (.ref i2) >>=_) _ _ _
   refine aa (fB hh (eb (eb (eb h2₀ hs₁ D.i2z) hs₂ D.i12.symm) hs₃ D.TOi2.symm) (et (et (et ht2₀ hs₁ D2.1) hs₂ D2.2.2.1) hs₃ D2.2.1) hy fun h₄ e hs₄ he=> ?_)
   obtain⟨oe,hoe,hce⟩:=he
   have hz₃:h₃.get? z=h₁.get? z:=by rw [hs₃.2 z D.TOz.symm,hs₂.2 z D.i1z.symm]
   rw [hz₁]at hz₃
   have hz₄:=hs₄ _ _ D.i2z.symm hz₃
   have hez:e≠z:=fun x=>by subst x; rw [hz₄]at hoe; cases hoe; simp at hce
   refine a9 hz₄ (by simp) fun h₅ _ hs₅=>hE h₅ e (fun c o c1 c2 c3 c4 x=>(hs₅.2 c c1).trans (hs₄ _ _ c4 ((hs₃.2 c c2).trans ((hs₂.2 c c3).trans ((hs₁.2 c c1).trans ((hs₀.2 c c1).trans x)))))) ⟨oe,(hs₅.2 _ hez).trans hoe,hce⟩
 | false=>
  simp only [aS,if_false]
  rw [<-dM]
  refine aa ?_
  show wpAny _ _ (forIn [aq i1,aq i2] _ _) _ _ _
  simp only [cj,dq]
  refine aa (aa (bq ?_))
  show wpAny _ _ (aG (.ref i1) >>=_) _ _ _
  cases hx:xs[k]? with
  | none=>exact aa (lK hh h1₀ ht1₀ hx fun h₂ e hs₂ he=>hE h₂ e (fun c o c1 _ c3 _ x=>hs₂ _ _ c3 ((hs₀.2 c c1).trans x)) he)
  | some x=>
   have hy:ys[k]? =none:=by rcases hend with h | h; rw [hx]at h; cases h; exact h
   refine aa (j5 h1₀ ht1₀ hx fun h₂ h1₂ hs₂=>ag (ag ?_))
   refine aa (aa (bq ?_))
   show wpAny _ _ (aG (.ref i2) >>=_) _ _ _
   exact aa (fB hh (eb h2₀ hs₂ D.i12.symm) (et ht2₀ hs₂ D2.2.2.1) hy fun h₄ e hs₄ he=>hE h₄ e (fun c o c1 _ c3 c4 x=>hs₄ _ _ c4 ((hs₂.2 c c3).trans ((hs₀.2 c c1).trans x))) he)
abbrev Lk(h:Heap)(t1:Addr):Heap:=h.push {cls:= .type "list_iterator",data:= .fields #[.ref t1, .int 0 0]}
abbrev Ln(h:Heap)(t1 t2:Addr):Heap:=(Lk h t1).push {cls:= .type "tuple_iterator",data:= .fields #[.ref t2, .int 0 0]}
abbrev Le(h:Heap)(t1 t2:Addr):Heap:=(Ln h t1 t2).push {cls:= .type "tuple",data:= .seq #[.ref h.objs.size, .ref (Lk h t1).objs.size]}
abbrev Li(h:Heap)(t1 t2:Addr):Heap:=(Le h t1 t2).push {cls:= .type "tuple",data:= .seq #[.none, .none]}
abbrev J9(h:Heap)(t1 t2:Addr):Heap:=(Li h t1 t2).push {cls:= .type "zip",data:= .fields #[.none, .bool false, .bool false, .ref (Ln h t1 t2).objs.size, .ref (Le h t1 t2).objs.size]}
theorem xp(t1 t2:Addr)(xs ys:Array Value):
  Meets (cP.«zip.__new__» ⟨[.type "zip", .ref t1, .ref t2], []⟩) (fun _ R s=>s.heap.IsList t1 xs/\s.heap.IsTuple t2 ys/\R (.ok (.ret (.ref (Li s.heap t1 t2).objs.size))) {s with heap:=J9 s.heap t1 t2}):=
 .of_wp fun prog w A R s h=>by
  obtain⟨hp,g,d,tk,os⟩:=s; obtain⟨hl1,hl2,h⟩:=h
  have hsub:=sub_zip
  have hL1:Heap.IsList (tu ⟨hp,g,d,tk,os⟩) t1 xs:=hl1
  have hL2:Heap.IsTuple (tu ⟨hp.push {cls:= .type "list_iterator",data:= .fields #[.ref t1, .int 0 0]},g,d,tk,os⟩) t2 ys:=by
   obtain⟨o,e,r⟩:=hl2; exact⟨o,af _ e,r⟩
  wp_walk using kX hL1,pP hL2
  exact⟨_,rfl,h⟩
theorem zV{t1 t2:Addr}{xs ys:Array Value}{Q:Value->ai->Prop}(hl1:s.heap.IsList t1 xs)(hl2:s.heap.IsTuple t2 ys)
  (h: ∀h',iu h' (s.heap.objs.size+4) (s.heap.objs.size+2) (s.heap.objs.size+3) s.heap.objs.size (s.heap.objs.size+1)->h'.IsListIter s.heap.objs.size t1 0->h'.IsTupleIter (s.heap.objs.size+1) t2 0->
   (∀c o,s.heap.get? c=some o->h'.get? c=some o)->Q (.ref (s.heap.objs.size+4)) {s with heap:=h'}):
  wpAny (model prog w) A (call (.type "zip") [.ref t1, .ref t2]) Q E s:=by
 refine callType_new PySem.F.called_zip (by decide) (PySem.F.typeCall_zip_2 _ _) (PySem.F.newCall_zip_2 _ _) (fun obj=>PySem.F.args_object_init_3 obj _ _) PySem.F.entry_zip_new (xp t1 t2 xs ys) ⟨hl1,hl2, ?_⟩
 have z1:(Lk s.heap t1).objs.size=s.heap.objs.size+1:=bX ..
 have z2:(Ln s.heap t1 t2).objs.size=s.heap.objs.size+2:=by rw [bX,z1]
 have z3:(Le s.heap t1 t2).objs.size=s.heap.objs.size+3:=by rw [bX,z2]
 have z4:(Li s.heap t1 t2).objs.size=s.heap.objs.size+4:=by rw [bX,z3]
 have g5:(J9 s.heap t1 t2).get? (Li s.heap t1 t2).objs.size=some _:=ar _ rfl
 have g4:(J9 s.heap t1 t2).get? (Le s.heap t1 t2).objs.size=some _:=af _ (ar _ rfl)
 have g3:(J9 s.heap t1 t2).get? (Ln s.heap t1 t2).objs.size=some _:=af _ (af _ (ar _ rfl))
 have g2:(J9 s.heap t1 t2).get? (Lk s.heap t1).objs.size=some _:=af _ (af _ (af _ (ar _ rfl)))
 have g1:(J9 s.heap t1 t2).get? s.heap.objs.size=some _:=af _ (af _ (af _ (af _ (ar _ rfl))))
 show _/\_
 rw [z2,z3,z4]at g5
 rw [z1,z2]at g3
 rw [z3]at g4
 rw [z1]at g2
 rw [z4]
 exact⟨⟨_,g5,rfl⟩,h _ ⟨⟨_,_,g5, .inl rfl⟩,g3,_,_,g4⟩ ⟨_,g1,rfl,rfl⟩ ⟨_,g2,rfl,rfl⟩ fun c o x=>af _ (af _ (af _ (af _ (af _ x))))⟩
end
end Z
namespace Z
open PySem PySem.Spec PyProof.Rows L2
theorem Dc{X:Cx}{pins:List (Addr×Obj)}{σ:St}{H:Hp}{s:ai}{a b:Addr}{xs:List V}(I:Inv X pins σ H s)(hf:g_ X pins H b)(h:lq X.K H a xs):a≠b:=fun e=>by
 subst e
 rcases h with(h | ⟨o,h⟩) | ⟨o,its,n,hk,_⟩
 ·rw [hf.1]at h; cases h
 ·rw [hf.1]at h; cases h
 ·have hb:=I.ok.mod.Cj a o hk
  rcases hf.2.2.2.1 with z | z
  ·exact I.ok.tM a o hb z
  ·exact absurd (aZ (au hb) (bj I.ok.zl z)) (df _)
theorem HP{prog:av}{w:World}{A:bC}{E:Value->ai->Prop}{s:ai}{ts:List Expr}{k:Nat}{tp:Pos}{z TI TO i1 i2 T:Addr}{Q:Unit->ai->Prop}(D:BS z TI TO i1 i2)(hZ:iu s.heap z TI TO i1 i2)
  (hQ: ∀h',iu h' z TI TO i1 i2->aW z s.heap h'->Q () {s with heap:=h'}):wpAny (model prog w) A (jL (.Tuple ts k tp) (.ref z) (.ref T)) Q E s:=by
 obtain⟨⟨f0,f1,hz,hf0⟩,hTI,a,b,hTO⟩:=hZ
 unfold jL
 refine aa (wz hz ?_)
 dsimp only
 refine cG (fun _=> ?_) fun _=> ?_
 ·refine aa (c7 ?_)
  show wpAny _ _ (fw (.ref z) 0 .none) Q E s
  exact a9 hz (by simp) fun h' hz' hs'=>hQ h' ⟨⟨.none,f1,hz', .inl rfl⟩,(hs'.2 _ D.TIz).trans hTI,a,b,(hs'.2 _ D.TOz).trans hTO⟩ hs'
 ·exact ag (hQ s.heap ⟨⟨f0,f1,hz,hf0⟩,hTI,a,b,hTO⟩ (bN _ _))
def Kq(K:Frag)(t1 t2:Addr):It:=
  ⟨fun i H=> ∃xs ys x y,lq K H t1 xs/\i5 K H t2 ys/\xs[i]? =some x/\ys[i]? =some y,
   fun i H v H'=> ∃T x y,v= .ref T/\H T=none/\H'=upd H T (.tup [x,y])/\(∀xs,lq K H t1 xs->xs[i]? =some x)/\ ∀ys,i5 K H t2 ys->ys[i]? =some y,
   fun i H=> ∃xs ys,lq K H t1 xs/\i5 K H t2 ys/\(xs.length<=i\/ys.length<=i)⟩
section
variable {prog:av}{w:World}{A:bC}{E:Value->ai->Prop}{s:ai}
theorem vb{z TI TO i1 i2 t1 t2:Addr}{k:Nat}{xs ys:Array Value}{x y:Value}{Q:Option Value->ai->Prop}(D:BS z TI TO i1 i2)(D1:t1≠z/\t1≠TO/\t1≠i1/\t1≠i2)(D2:t2≠z/\t2≠TO/\t2≠i1/\t2≠i2)(hZ:iu s.heap z TI TO i1 i2)
  (h1:s.heap.IsListIter i1 t1 k)(h2:s.heap.IsTupleIter i2 t2 k)(ht1:s.heap.IsList t1 xs)(ht2:s.heap.IsTuple t2 ys)(hx:xs[k]? =some x)(hy:ys[k]? =some y)
  (hQ: ∀h',iu h' z TI TO i1 i2->h'.IsListIter i1 t1 (k+1)->h'.IsTupleIter i2 t2 (k+1)->eW h' s.heap.objs.size x y->
   (∀c o,c≠z->c≠TO->c≠i1->c≠i2->s.heap.get? c=some o->h'.get? c=some o)->Q (some (.ref s.heap.objs.size)) {s with heap:=h'}):wpAny (model prog w) A (gF (.ref z)) Q E s:=by
 obtain⟨⟨f0,f1,hz,_⟩,_⟩:=id hZ
 have hT:s.TypeIs (.ref z) "zip":=⟨_,hz,rfl⟩
 unfold gF
 exact aa (hV (bM (name:=dP "__next__") hT fg
  (bh fg hT sW (zA D D1 D2 hZ h1 h2 ht1 ht2 hx hy fun h' a1 a2 a3 a4 a5=>ag (hQ h' a1 a2 a3 a4 a5)) (qv _))))
theorem pC{z TI TO i1 i2 t1 t2:Addr}{k:Nat}{xs ys:Array Value}{Q:Option Value->ai->Prop}(hh:A.handled=none)(D:BS z TI TO i1 i2)(D1:t1≠z/\t1≠TO/\t1≠i1/\t1≠i2)(D2:t2≠z/\t2≠TO/\t2≠i1/\t2≠i2)(hZ:iu s.heap z TI TO i1 i2)
  (h1:s.heap.IsListIter i1 t1 k)(h2:s.heap.IsTupleIter i2 t2 k)(ht1:s.heap.IsList t1 xs)(ht2:s.heap.IsTuple t2 ys)(hend:xs[k]? =none\/ys[k]? =none)
  (hQ: ∀h',(∀c o,c≠z->c≠TO->c≠i1->c≠i2->s.heap.get? c=some o->h'.get? c=some o)->Q none {s with heap:=h'}):wpAny (model prog w) A (gF (.ref z)) Q E s:=by
 obtain⟨⟨f0,f1,hz,_⟩,_⟩:=id hZ
 have hT:s.TypeIs (.ref z) "zip":=⟨_,hz,rfl⟩
 unfold gF
 refine aa (hV (bM (name:=dP "__next__") hT fg
  (bh fg hT sW (Cc hh D D1 D2 hZ h1 h2 ht1 ht2 hend fun h' e hk he=> ?_) (qv _))))
 obtain⟨o,ho,hc⟩:=he
 refine aa (dO (T:="StopIteration") (b:=true) ⟨o,ho,hc⟩ oi ?_)
 exact ag (hQ _ hk)
end
theorem y_{P:av}{w:World}{K:Frag}{ts:List Expr}{tk:Nat}{px:Pos}{z TI TO i1 i2 t1 t2:Addr}(D:BS z TI TO i1 i2):
  Turn P w K (.Tuple ts tk px) (Kq K t1 t2) [z,TI,TO,i1,i2] z (fun i h=>iu h z TI TO i1 i2/\h.IsListIter i1 t1 i/\h.IsTupleIter i2 t2 i) where
 mem:=by simp
 obj:=fun i h ⟨⟨⟨f0,f1,hz,_⟩,hTI,a,b,hTO⟩,h1,h2⟩ c hc=>by
  have hc':c=z\/c=TI\/c=TO\/c=i1\/c=i2:=by simpa using hc
  rcases hc' with rfl | rfl | rfl | rfl | rfl
  ·exact⟨_,hz,fun v e=>by cases e⟩
  ·exact⟨_,hTI,fun v e=>by cases e⟩
  ·exact⟨_,hTO,fun v e=>by cases e⟩
  ·obtain⟨o,e,c,d⟩:=h1; exact⟨o,e,fun v z=>by rw [d]at z; cases z⟩
  ·obtain⟨o,e,c,d⟩:=h2; exact⟨o,e,fun v z=>by rw [d]at z; cases z⟩
 keep:=fun i h h' ⟨⟨⟨f0,f1,hz,q⟩,hTI,a,b,hTO⟩,h1,h2⟩ k=>
  ⟨⟨⟨f0,f1,k z (by simp) _ hz,q⟩,k TI (by simp) _ hTI,a,b,k TO (by simp) _ hTO⟩,h1.at fun o e=>k i1 (by simp) o e,h2.at fun o e=>k i2 (by simp) o e⟩
 item:=by
  intro X hP hw hK hc i pins s σ H E I hf ⟨hZ,h1,h2⟩ hg
  subst hP hw hK
  obtain⟨xs,ys,x0,y0,hq1,hq2,hx,hy⟩:=hg
  obtain⟨its1,rv1,p1,hz1⟩:=I.list hq1
  obtain⟨its2,rv2,p2,hz2⟩:=I.tuple hq2
  obtain⟨u,hu,ru⟩:=rv1.get hx
  obtain⟨v,hv,rv⟩:=rv2.get hy
  have n1: ∀b∈ [z,TI,TO,i1,i2],t1≠b:=fun b hb=>Dc I (hf b hb) hq1
  have n2: ∀b∈ [z,TI,TO,i1,i2],t2≠b:=fun b hb=>pJ I (hf b hb) hq2
  refine vb D ⟨n1 _ (by simp),n1 _ (by simp),n1 _ (by simp),n1 _ (by simp)⟩ ⟨n2 _ (by simp),n2 _ (by simp),n2 _ (by simp),n2 _ (by simp)⟩ hZ h1 h2 p1.isList (show s.heap.IsTuple t2 its2.toArray from p2) (x:=u) (y:=v) (by simpa using hu) (by simpa using hv) fun h' a1 a2 a3 a4 k=> ?_
  have kk: ∀b o,b∉ [z,TI,TO,i1,i2]->s.heap.get? b=some o->h'.get? b=some o:=fun b o hb e=>k b o (fun q=>hb (by simp [q])) (fun q=>hb (by simp [q])) (fun q=>hb (by simp [q])) (fun q=>hb (by simp [q])) e
  have I1:Inv X pins σ (upd H s.heap.objs.size (.tup [x0,y0])) {s with heap:=h'}:=lW (t':=s.toks) I hf kk (bw I.fresh) (fun b o e n=>by rw [cu (aF (au e))]; exact n)
   (yu I hf kk I.fresh ⟨by show 2<=sizeLine; decide, [u,v], .cons ru (.cons rv .nil),⟨_,a4,rfl,_,rfl⟩⟩)
  have lts: ∀b∈ [z,TI,TO,i1,i2],b < s.heap.objs.size:=fun b hb=>by
   have hb':b=z\/b=TI\/b=TO\/b=i1\/b=i2:=by simpa using hb
   obtain⟨⟨f0,f1,hz,_⟩,hTI,a,b,hTO⟩:=hZ
   obtain⟨o1,e1,_⟩:=h1
   obtain⟨o2,e2,_⟩:=h2
   rcases hb' with rfl | rfl | rfl | rfl | rfl
   ·exact au hz
   ·exact au hTI
   ·exact au hTO
   ·exact au e1
   ·exact au e2
  have hf1: ∀b∈ [z,TI,TO,i1,i2],g_ X pins (upd H s.heap.objs.size (.tup [x0,y0])) b:=fun b hb=>⟨by rw [cu (aF (lts b hb))]; exact(hf b hb).1,(hf b hb).2⟩
  refine⟨_,rfl,HP (s:={s with heap:=h'}) D a1 fun h2' z2 sb=> ?_⟩
  have kk2: ∀b o,b∉ [z,TI,TO,i1,i2]->h'.get? b=some o->h2'.get? b=some o:=fun b o hb e=>(sb.2 b fun q=>hb (by simp [q])).trans e
  have I2:Inv X pins σ (upd H s.heap.objs.size (.tup [x0,y0])) {s with heap:=h2'}:=lW (s:={s with heap:=h'}) (t':=s.toks) I1 hf1 kk2 (bP.refl _) (fun b o e n=>n) (rH I1 hf1 kk2)
  exact⟨.ref s.heap.objs.size,_,I2,rfl,⟨s.heap.objs.size,x0,y0,rfl,I.fresh,rfl,fun zs hq=>by rw [I.list_inj hq hq1]; exact hx,fun zs hq=>by rw [I.tuple_inj hq hq2]; exact hy⟩,⟨z2,a2.at fun o e=>(sb.2 i1 D.i1z).trans e,a3.at fun o e=>(sb.2 i2 D.i2z).trans e⟩,fun b hb=>(hf1 b hb).1⟩
 done:=by
  intro X hP hw hK hc i pins s σ H E I hf ⟨hZ,h1,h2⟩ hg
  subst hP hw hK
  obtain⟨xs,ys,hq1,hq2,hx⟩:=hg
  obtain⟨its1,rv1,p1,hz1⟩:=I.list hq1
  obtain⟨its2,rv2,p2,hz2⟩:=I.tuple hq2
  have n1: ∀b∈ [z,TI,TO,i1,i2],t1≠b:=fun b hb=>Dc I (hf b hb) hq1
  have n2: ∀b∈ [z,TI,TO,i1,i2],t2≠b:=fun b hb=>pJ I (hf b hb) hq2
  have l1:=rv1.length
  have l2:=rv2.length
  refine pC (I.ok.hd hc) D ⟨n1 _ (by simp),n1 _ (by simp),n1 _ (by simp),n1 _ (by simp)⟩ ⟨n2 _ (by simp),n2 _ (by simp),n2 _ (by simp),n2 _ (by simp)⟩ hZ h1 h2 p1.isList (show s.heap.IsTuple t2 its2.toArray from p2) ?_ fun h' k=> ?_
  ·rcases hx with hx | hx
   ·exact .inl (by simp; omega)
   ·exact .inr (by simp; omega)
  have kk: ∀b o,b∉ [z,TI,TO,i1,i2]->s.heap.get? b=some o->h'.get? b=some o:=fun b o hb e=>k b o (fun q=>hb (by simp [q])) (fun q=>hb (by simp [q])) (fun q=>hb (by simp [q])) (fun q=>hb (by simp [q])) e
  exact⟨rfl,lW (t':=s.toks) I hf kk (bP.refl _) (fun b o e n=>n) (rH I hf kk)⟩
 self:=fun _ _ _ _ _ st h=>j7 st.1 h
def Je(K:Frag)(ta:TA):TI:=fun σ H R=>ta σ H fun vs H1=> ∃t1 t2,vs= [.ref t1, .ref t2]/\(∃xs,lq K H1 t1 xs)/\(∃ys,i5 K H1 t2 ys)/\R (Kq K t1 t2) H1
section
variable {X:Cx}{ρ:eZ}{e a b:Expr}{d:D}{ds es:List D}{p pos px:Pos}{ts:List Expr}{tk:Nat}
theorem DT{ta:TA}(hg:Gl X "zip")(hm:X.mg "zip"=none)(ha:PA X [a,b] ta)(hs:ax [a,b] X.env= [(false,eval a X.env),(false,eval b X.env)]:=by rfl)(hs2:ax [b] X.env= [(false,eval b X.env)]:=by rfl):
  PI X (.Tuple ts tk px) (.Call (.Name "zip" p) [a,b] [] pos) (Je X.K ta):=by
 intro pins s σ H R I h
 refine Call_ (nF I hg hm uu (gG (eQ (ha pos pins s σ H _ I h) fun us s1 ⟨vs,H1,I1,r1,q1⟩=> ?_) (by rw [hs,hs2]) (by rw [hs2]; rfl)))
 obtain⟨t1,t2,e,⟨xs,hq1⟩,⟨ys,hq2⟩,q⟩:=q1
 subst e
 cases r1 with
 | cons r rr=>
  cases rr with
  | cons r' rr=>
   cases rr
   cases r
   cases r'
   obtain⟨its1,rv1,p1,hz1⟩:=I1.list hq1
   obtain⟨its2,rv2,p2,hz2⟩:=I1.tuple hq2
   refine zV p1.isList (show s1.heap.IsTuple t2 its2.toArray from p2) fun h' a1 a2 a3 k=> ?_
   refine j7 (s:={s1 with heap:=h'}) a1 ?_
   have D:BS (s1.heap.objs.size+4) (s1.heap.objs.size+2) (s1.heap.objs.size+3) s1.heap.objs.size (s1.heap.objs.size+1):=by
    constructor <;> first | exact aF (by show(_:Nat) < _; omega) | exact bH (by show(_:Nat) < _; omega)
   refine⟨_, [s1.heap.objs.size+4,s1.heap.objs.size+2,s1.heap.objs.size+3,s1.heap.objs.size,s1.heap.objs.size+1],_,_,H1,rfl,I1.kept (t':=s1.toks) k,y_ D,⟨a1,a2,a3⟩,fun b hb=> ?_,q⟩
   have hb':b=s1.heap.objs.size+4\/b=s1.heap.objs.size+2\/b=s1.heap.objs.size+3\/b=s1.heap.objs.size\/b=s1.heap.objs.size+1:=by simpa using hb
   have hle:s1.heap.objs.size<=b:=by rcases hb' with rfl | rfl | rfl | rfl | rfl <;> (show(_:Nat)<=_; omega)
   exact I1.fpOk hle (I1.dW.fresh hle)
theorem ja.zipLT(hg:Gl X "zip")(hm:X.mg "zip"=none)(h1:az X ρ a (.lst ds))(h2:az X ρ b (.tup es))(hs:ax [a,b] X.env= [(false,eval a X.env),(false,eval b X.env)]:=by rfl)(hs2:ax [b] X.env= [(false,eval b X.env)]:=by rfl):
  ja X ρ (.Tuple ts tk px) (.Call (.Name "zip" p) [a,b] [] pos) (pN ds es):=fun M0 H0 γ α σ H R r k=>(DT hg hm vh hs hs2).to ((bp.cons h1 (bp.cons h2 bp.nil hs2) (by rw [hs,hs2])) M0 H0 γ α σ H _ r fun vs H1 s x=>by
 obtain⟨v1,r1,rfl,e1,v2,r2,rfl,e2,e3⟩:=x
 cases e3
 obtain⟨t1,xs,rfl,sq1,dn1⟩:=id e1
 obtain⟨t2,ys,rfl,sq2,dn2⟩:=id e2
 refine⟨t1,t2,rfl,⟨xs,sq1.l⟩,⟨ys,sq2⟩,k _ H1 [(.lst ds, .ref t1),(.tup es, .ref t2)] s (fun p hp=> ?_) fun M H2 hg=> ?_⟩
 ·have hp':p=(.lst ds, .ref t1)\/p=(.tup es, .ref t2):=by simpa using hp
  rcases hp' with rfl | rfl
  ·exact e1
  ·exact e2
 obtain⟨q1,xs',ee1,sq1',dn1'⟩:=hg _ (bO)
 obtain⟨q2,ys',ee2,sq2',dn2'⟩:=hg _ (bY _ (bO))
 cases ee1; cases ee2
 have L1:=dn1'.len
 have L2:=dn2'.len
 refine⟨fun i d hi=> ?_,⟨xs',ys',sq1'.l,sq2', ?_⟩⟩
 ·unfold pN at hi
  rw [aj]at hi
  cases e:(ds.zip es)[i]? with
  | none=>rw [e]at hi; cases hi
  | some pq=>
   rw [e]at hi
   cases hi
   obtain⟨g1,g2⟩:=wR.mp e
   obtain⟨x,hx,dx⟩:=dn1'.get g1
   obtain⟨y,hy,dy⟩:=dn2'.get g2
   refine⟨⟨xs',ys',x,y,sq1'.l,sq2',hx,hy⟩,fun v H' hv=> ?_⟩
   obtain⟨T,x',y',rfl,hT,rfl,f1,f2⟩:=hv
   have e1:=f1 xs' sq1'.l
   have e2:=f2 ys' sq2'
   rw [hx]at e1; cases e1
   rw [hy]at e2; cases e2
   exact⟨bw hT,T,_,rfl,i5.of bG,_,_,rfl,dx.same (bw hT),_,_,rfl,dy.same (bw hT),rfl⟩
 ·unfold pN
  rw [ae,bK]
  omega)
end
theorem rY{scope:Scope}{env:Env}{y1 y2:Str}{c1 c2:Addr}{pre mid post:List (Str×iP)}(hs:scope.names=pre ++ (y1, .free)::(mid ++ (y2, .free)::post))(h1: ∀z∈pre,z.2≠ .free)(h2: ∀z∈mid,z.2≠ .free)(h3: ∀z∈post,z.2≠ .free)(hc1:env.cells.lookup y1=some c1)(hc2:env.cells.lookup y2=some c2):pT scope env=pure [(y2,c2),(y1,c1)]:=by
 have step: ∀(y:Str) (c:Addr) (acc:List (Str×Addr)),env.cells.lookup y=some c->jb env (y, .free) acc=pure (ik ((y,c)::acc)):=fun y c acc hc=>by
  have e:cellOf env y=pure c:=by unfold cellOf; rw [hc]
  unfold jb
  simp only [beq_self_eq_true,if_true,e,sX]
 have all:forIn scope.names ([]:List (Str×Addr)) (jb env)=pure [(y2,c2),(y1,c1)]:=by
  rw [hs,mG pre _ [] h1,cj,step y1 c1 [] hc1]
  simp only [sX]
  rw [mG mid _ _ h2,cj,step y2 c2 _ hc2]
  simp only [sX]
  have:=mG (env:=env) post [] [(y2,c2),(y1,c1)] h3
  rw [bJ]at this
  rw [this]
  rfl
 have e3:pT scope env=(forIn scope.names ([]:List (Str×Addr)) (jb env) >>=fun r=>pure r):=rfl
 rw [e3,all]
 rfl
theorem dE.cap2{X:Cx}{scope:Scope}{x y1 y2:Str}{c1 c2:Addr}{j1 j2:Nat}{pre mid post rn:List (Str×iP)}(hs:scope.names=pre ++ (y1, .free)::(mid ++ (y2, .free)::post))(h1: ∀z∈pre,z.2≠ .free)(h2: ∀z∈mid,z.2≠ .free)(h3: ∀z∈post,z.2≠ .free)(hcl1:X.env.cells.lookup y1=some c1)(hcl2:X.env.cells.lookup y2=some c2)(hne:(y1==y2)=false)
  (hc: ∀z∈scope.names,z.2≠ .cell)(hk:scope.kind= .function)(hn: ∀y∈scope.names,y.2= .local->scope.names.lookup y.1=some .local)(ho:scope.names.lookup x=some .local)(hj1:X.N[j1]? =some y1)(hj2:X.N[j2]? =some y2)(hy1:X.env.scope.names.lookup y1=some .cell)(hy2:X.env.scope.names.lookup y2=some .cell)
  (hrel:(jl scope X.env).names=rn)(hrn1:rn.lookup y1=some .cell)(hrn2:rn.lookup y2=some .cell)(hall: ∀z∈rn,(z.2= .cell\/z.2= .free)->z.1=y1\/z.1=y2):dE X [x,y1,y2] [j1,j2] scope x [(y2,c2),(y1,c1)] where
 w8:=rY hs h1 h2 h3 hcl1 hcl2
 cell:=hc
 kind:=hk
 names:=hn
 own:=ho
 hN:=⟨[y1,y2],rfl,rfl,fun i z k e1 e2=>by
  match i,e1,e2 with
  | 0,e1,e2=>
   have e1':y1=z:=by simpa using e1
   have e2':j1=k:=by simpa using e2
   subst e1' e2'
   refine⟨hj1,hy1,by rw [hrel]; exact hrn1,fun c' e=> ?_⟩
   rw [hcl1]at e
   cases e
   rw [fX,hne]
   simp
  | 1,e1,e2=>
   have e1':y2=z:=by simpa using e1
   have e2':j2=k:=by simpa using e2
   subst e1' e2'
   refine⟨hj2,hy2,by rw [hrel]; exact hrn2,fun c' e=> ?_⟩
   rw [hcl2]at e
   cases e
   simp
  | i+2,e1,_=>simp at e1⟩
 sub:=fun z d h=>by
  rw [fX]at h
  cases hb:z==y2 with
  | true=>
   rw [hb]at h
   cases h
   rw [beq_iff_eq.mp hb]
   exact hcl2
  | false=>
   rw [hb]at h
   dsimp only at h
   rw [fX]at h
   cases hb1:z==y1 with
   | true=>
    rw [hb1]at h
    cases h
    rw [beq_iff_eq.mp hb1]
    exact hcl1
   | false=>rw [hb1]at h; simp at h
 has:=fun z h=>by
  rw [hrel]at h
  have:z=y1\/z=y2:=by
   rcases h with h | h
   ·exact hall _ (b9 h) (.inl rfl)
   ·exact hall _ (b9 h) (.inr rfl)
  rcases this with rfl | rfl
  ·exact⟨c1,by rw [fX,hne]; simp⟩
  ·exact⟨c2,by simp⟩
theorem Kb{ρ:eZ}{j1 j2:Nat}{d1 d2:D}(h1:ρ[j1]? =some (.im d1))(h2:ρ[j2]? =some (.im d2)):xI ρ [j1,j2] [d1,d2]:=⟨rfl,fun k i d e1 e2=>by
 match k,e1,e2 with
 | 0,e1,e2=>
  have e1':j1=i:=by simpa using e1
  have e2':d1=d:=by simpa using e2
  subst e1' e2'
  exact h1
 | 1,e1,e2=>
  have e1':j2=i:=by simpa using e1
  have e2':d2=d:=by simpa using e2
  subst e1' e2'
  exact h2
 | k+2,e1,_=>simp at e1⟩
end Z
namespace K
open PySem L2 Z
def FN:List Str:= ["stack_count","most_crates","crane_strength","banned_pairs"]
abbrev dZ:=List (Int×Int)
def su(f:c_)(qs:dZ):List D:= [.int f.st, .int f.ht, .int f.lf, .tup (qs.map pD)]
def iG(C:Addr)(f:c_)(qs:dZ):D:= .ins C FN (su f qs)
structure Jp(K:Frag)(C:Addr):Prop where
 cl:zq K C
 n1:iL K C "stack_count"
 n2:iL K C "most_crates"
 n3:iL K C "crane_strength"
 n4:iL K C "banned_pairs"
structure ql(f:c_):Prop where
 st:2<=f.st/\f.st<=4
 ht:1<=f.ht/\f.ht<=6
 lf:1<=f.lf/\f.lf<=3
 ie:f.eE.length<=4
 ok:f.eE.all jj=true
section
variable {P:av}{w:World}{K:Frag}{mg:Str->Option Value}{base:Heap}{CX:gM}{C:Addr}
abbrev Bb(P:av)(w:World)(K:Frag)(mg:Str->Option Value)(base:Heap)(CX:gM)(C:Addr):Prop:=
 J7 P w K mg base CX 1 C "stacks" (fun i:c_×dZ=> [iG C i.1 i.2]) (fun _=>True) (fun i=> .ok (.int i.1.st))
abbrev A9(P:av)(w:World)(K:Frag)(mg:Str->Option Value)(base:Heap)(CX:gM)(C:Addr):Prop:=
 J7 P w K mg base CX 1 C "height" (fun i:c_×dZ=> [iG C i.1 i.2]) (fun _=>True) (fun i=> .ok (.int i.1.ht))
abbrev Iu(P:av)(w:World)(K:Frag)(mg:Str->Option Value)(base:Heap)(CX:gM)(C:Addr):Prop:=
 J7 P w K mg base CX 1 C "lift" (fun i:c_×dZ=> [iG C i.1 i.2]) (fun _=>True) (fun i=> .ok (.int i.1.lf))
abbrev Ir(P:av)(w:World)(K:Frag)(mg:Str->Option Value)(base:Heap)(CX:gM)(C:Addr):Prop:=
 J7 P w K mg base CX 1 C "bans" (fun i:c_×dZ=> [iG C i.1 i.2]) (fun _=>True) (fun i=> .ok (.lst (i.2.map pD)))
theorem LM:bQ ["self"] ["self"] (aL (C3 1)):=⟨rfl,rfl,rfl,by decide +kernel,rfl,by decide +kernel,by decide +kernel⟩
theorem Ma:bQ ["self"] ["self"] (aL (C3 2)):=⟨rfl,rfl,rfl,by decide +kernel,rfl,by decide +kernel,by decide +kernel⟩
theorem Me:bQ ["self"] ["self"] (aL (C3 3)):=⟨rfl,rfl,rfl,by decide +kernel,rfl,by decide +kernel,by decide +kernel⟩
theorem Lq:bQ ["self"] ["self"] (aL (C3 4)):=⟨rfl,rfl,rfl,by decide +kernel,rfl,by decide +kernel,by decide +kernel⟩
theorem Lv(f:c_)(qs:dZ):lj FN (su f qs) "stack_count"=some (.int f.st):=rfl
theorem Md(f:c_)(qs:dZ):lj FN (su f qs) "most_crates"=some (.int f.ht):=by
 unfold FN su
 rw [lj,if_neg (by decide +kernel),lj,if_pos (by decide +kernel)]
theorem LR(f:c_)(qs:dZ):lj FN (su f qs) "crane_strength"=some (.int f.lf):=by
 unfold FN su
 rw [lj,if_neg (by decide +kernel),lj,if_neg (by decide +kernel),lj,if_pos (by decide +kernel)]
theorem LK(f:c_)(qs:dZ):lj FN (su f qs) "banned_pairs"=some (.tup (qs.map pD)):=by
 unfold FN su
 rw [lj,if_neg (by decide +kernel),lj,if_neg (by decide +kernel),lj,if_neg (by decide +kernel),lj,if_pos (by decide +kernel)]
theorem CF{f:Addr}{fd:bg}(T:Jp K C)(F:ji K "stacks" "Floor.stacks" (C3 1) f fd)(hm:Meth K C "stacks" f)(hb:Binds K fd ["self"] []):Bb P w K mg base CX C:=
 vj F LM hm hb (fun i=>rfl) fun cdv A outer s H E i M0 hp hr=>⟨_,rfl,WS.one (W1.ret (az.fld T.cl T.n1 (nm 0 rfl rfl) (Lv i.1 i.2)) rfl)⟩
theorem CQ{f:Addr}{fd:bg}(T:Jp K C)(F:ji K "height" "Floor.height" (C3 2) f fd)(hm:Meth K C "height" f)(hb:Binds K fd ["self"] []):A9 P w K mg base CX C:=
 vj F Ma hm hb (fun i=>rfl) fun cdv A outer s H E i M0 hp hr=>⟨_,rfl,WS.one (W1.ret (az.fld T.cl T.n2 (nm 0 rfl rfl) (Md i.1 i.2)) rfl)⟩
theorem GZ{f:Addr}{fd:bg}(T:Jp K C)(F:ji K "lift" "Floor.lift" (C3 3) f fd)(hm:Meth K C "lift" f)(hb:Binds K fd ["self"] []):Iu P w K mg base CX C:=
 vj F Me hm hb (fun i=>rfl) fun cdv A outer s H E i M0 hp hr=>⟨_,rfl,WS.one (W1.ret (az.fld T.cl T.n3 (nm 0 rfl rfl) (LR i.1 i.2)) rfl)⟩
theorem Hy{f:Addr}{fd:bg}(B:Bm mg)(T:Jp K C)(F:ji K "bans" "Floor.bans" (C3 4) f fd)(hm:Meth K C "bans" f)(hb:Binds K fd ["self"] []):Ir P w K mg base CX C:=
 vj F Lq hm hb (fun i=>rfl) fun cdv A outer s H E i M0 hp hr=>⟨_,rfl,WS.one (W1.ret (ef.toD (ef.listT rfl B.list (az.fld T.cl T.n4 (nm 0 rfl rfl) (LK i.1 i.2)))) rfl)⟩
theorem JL:bQ ["self","stacks","height","lift","bans"] ["self","stacks","height","lift","bans"] (aL xS):=⟨rfl,rfl,rfl,by decide +kernel,rfl,by decide +kernel,by decide +kernel⟩
abbrev AA(P:av)(w:World)(K:Frag)(mg:Str->Option Value)(base:Heap)(CX:gM)(C:Addr):Prop:=
 L8 P w K mg base CX 5 "Floor" C FN (fun f:c_=> [.int f.st, .int f.ht, .int f.lf, .lst (f.eE.map pD)]) ql (fun f ds=> ∃qs:dZ,ds=su f qs/\qs=gC f.eE)
theorem Eo{K:Frag}{M0:MP}{H H1 H':Hp}{γ:List (D×V)}{α:Nat->Addr}{ρ:eZ}{σ:St}(r:Rep K M0 H γ α ρ σ H')(hM: ∀a,M0 a->H1 a≠none)(s:bP H1 H)(nomu: ∀(i:Nat) (ds:List D),ρ[i]? ≠some (.mu ds)):Rep K M0 H1 γ α ρ σ H':=
 ⟨s.trans r.same,hM,r.inj,r.im,fun i ds e=>absurd e (nomu i ds),r.gh,r.len⟩
theorem K7(a b c d:V):f7 "banned_pairs" d (f7 "crane_strength" c (f7 "most_crates" b (f7 "stack_count" a [])))=([("stack_count",a),("most_crates",b),("crane_strength",c),("banned_pairs",d)]:List (Str×V)):=by
 have n1:("stack_count":Str)≠"most_crates":=by decide +kernel
 have n2:("stack_count":Str)≠"crane_strength":=by decide +kernel
 have n3:("most_crates":Str)≠"crane_strength":=by decide +kernel
 have n4:("stack_count":Str)≠"banned_pairs":=by decide +kernel
 have n5:("most_crates":Str)≠"banned_pairs":=by decide +kernel
 have n6:("crane_strength":Str)≠"banned_pairs":=by decide +kernel
 simp only [f7,n1,n2,n3,n4,n5,n6,if_false]
theorem Ba(n:Nat)(ps:dZ): ∀d∈ps.map pD,D.noI (n+1) d:=fun d hd=>by
 obtain⟨p,_,rfl⟩:=aQ.mp hd
 intro e he
 have:e= .int p.1\/e= .int p.2:=by simpa [pD]using he
 rcases this with rfl | rfl <;> (cases n <;> exact c6)
theorem Hn{f:Addr}{fd:bg}(nx:NX CX)(B:Bm mg)(T:Jp K C)(G1:lu P w K mg base CX)(G2:qY P w K mg base CX)(F:ji K "__init__" "Floor.__init__" xS f fd)(M:Mk K C f)(hm:mg "Floor"=some (.ref C))(hb:Binds K fd ["self","stacks","height","lift","bans"] []):AA P w K mg base CX C:=by
 refine⟨f,fd,_, ?_,M,hm,hb⟩
 obtain⟨oc,od,kV,doc,pm,an,cdv,ct,osl,rfl,lk,hcd⟩:=F.ex
 refine xO lk hcd JL (fun vs H Q E ⟨i,M0,x,dx,us,e,_,_,h,_⟩=>by subst e; rw [aH,h.len]; rfl) fun A outer s H vs Q E hr hsp=> ?_
 obtain⟨fl,M0,x,dx,us,rfl,hx,hM,hd,hp,kk⟩:=hsp
 refine⟨nE _ (bt xS),(gI (X:=(nc CX P w K mg base ["self","stacks","height","lift","bans"] "Floor.__init__" (aL xS) f cdv A outer s H E).nox)).nox, ?_⟩
 obtain⟨⟨s2,s4⟩,⟨h1,h6⟩,⟨l1,l3⟩,hfew,dW⟩:=hp
 have hM': ∀a,M0 a->H a≠none:=fun a ha z=>hM a ha (eX.free z)
 have R1:Rep K M0 H [] (fun _=>0) (qS ["self","stacks","height","lift","bans"] (.ins C [] []:: [.int fl.st, .int fl.ht, .int fl.lf, .lst (fl.eE.map pD)])) (L2.start ["self","stacks","height","lift","bans"] (.ref x::us)) H:=
  rep0 hM' ⟨_,_,rfl,⟨x,dx, [],rfl,hx,rfl,rfl⟩,hd⟩
 have R2:=Eo (R1.drop1 (i:=0)) hM eX (fun i ds e=>by
  have:i < 5:=(aD.mp e).1
  match i,this with
  | 0,_=>cases e
  | 1,_=>cases e
  | 2,_=>cases e
  | 3,_=>cases e
  | 4,_=>cases e)
 have hσ:(L2.start ["self","stacks","height","lift","bans"] (.ref x::us))[0]? =some (some (.ref x)):=rfl
 generalize L2.start ["self","stacks","height","lift","bans"] (.ref x::us)=σ at R2 hσ ⊢
 change Rep K M0 (eu H x) [] (fun _=>0) [.un, .im (.int fl.st), .im (.int fl.ht), .im (.int fl.lf), .im (.lst (fl.eE.map pD))] σ H at R2
 have hi: ∀sl∈([.un, .im (.int fl.st), .im (.int fl.ht), .im (.int fl.lf), .im (.lst (fl.eE.map pD))]:eZ),sl= .un\/ ∃d,sl= .im d/\D.noI 9 d:=fun sl hs=>by
  have:sl= .un\/sl= .im (.int fl.st)\/sl= .im (.int fl.ht)\/sl= .im (.int fl.lf)\/sl= .im (.lst (fl.eE.map pD)):=by simpa using hs
  rcases this with rfl | rfl | rfl | rfl | rfl
  ·exact .inl rfl
  ·exact .inr ⟨_,rfl,trivial⟩
  ·exact .inr ⟨_,rfl,trivial⟩
  ·exact .inr ⟨_,rfl,trivial⟩
  ·exact .inr ⟨_,rfl,Ba 7 _⟩
 refine(dS uM gI).to (vZ (ρ:= [.un, .im (.int fl.st), .im (.int fl.ht), .im (.int fl.lf), .im (.lst (fl.eE.map pD))]) (c8.to (c8.not (c8.val (az.call G1 (hr.mono (by decide)) (bb nx) rfl (fl.st,2,4) (bp.cons (nm 1 rfl rfl) (bp.cons (pk B.ie rfl) (bp.cons (pk B.most rfl) bp.nil))) trivial rfl))) (by rw [decide_eq_true s2,decide_eq_true s4]; rfl)) R2 fun H1 t1=> ?_)
 have R3:=R2.next t1
 refine(dS uM gI).to (vZ (ρ:= [.un, .im (.int fl.st), .im (.int fl.ht), .im (.int fl.lf), .im (.lst (fl.eE.map pD))]) (c8.to (c8.not (c8.val (az.call G1 (hr.mono (by decide)) (bb nx) rfl (fl.ht,1,6) (bp.cons (nm 2 rfl rfl) (bp.cons (pk B.low rfl) (bp.cons (pk B.great rfl) bp.nil))) trivial rfl))) (by rw [decide_eq_true h1,decide_eq_true h6]; rfl)) R3 fun H2 t2=> ?_)
 have R4:=R3.next t2
 refine(dS uM gI).to (vZ (ρ:= [.un, .im (.int fl.st), .im (.int fl.ht), .im (.int fl.lf), .im (.lst (fl.eE.map pD))]) (c8.to (c8.not (c8.val (az.call G1 (hr.mono (by decide)) (bb nx) rfl (fl.lf,1,3) (bp.cons (nm 3 rfl rfl) (bp.cons (pk B.weak rfl) (bp.cons (pk B.EV rfl) bp.nil))) trivial rfl))) (by rw [decide_eq_true l1,decide_eq_true l3]; rfl)) R4 fun H3 t3=> ?_)
 have R5:=R4.next t3
 refine(dS uM gI).to (vZ (ρ:= [.un, .im (.int fl.st), .im (.int fl.ht), .im (.int fl.lf), .im (.lst (fl.eE.map pD))]) (c8.to (c8.not (c8.val (az.call G2 hr (bb nx) rfl fl.eE (bp.cons (nm 4 rfl rfl) bp.nil) (show fl.eE.length<=100 by omega) rfl))) (by rw [dW,decide_eq_true (show fl.eE.length<=20 by omega)]; rfl)) R5 fun H4 t4=> ?_)
 have R6:=R5.next t4
 have x4:H4 x=some (.ins C dx []):=t4 _ _ (t3 _ _ (t2 _ _ (t1 _ _ hx)))
 refine(dS uM gI).to (zB 0 rfl (.inl rfl) hσ T.cl T.n1 (by decide) (nm 1 rfl rfl) R6 x4 fun v1 H5 t5 d5=> ?_)
 cases (show v1=V.int fl.st from d5)
 have x5:=t5 _ _ x4
 have R7:=(R6.next t5).ins (fs':=f7 "stack_count" (V.int fl.st) []) oW x5 hi
 refine(dS uM gI).to (zB 0 rfl (.inl rfl) hσ T.cl T.n2 (by show 1 < 1000; decide) (nm 2 rfl rfl) R7 bG fun v2 H6 t6 d6=> ?_)
 cases (show v2=V.int fl.ht from d6)
 have x6:=t6 _ _ bG
 have R8:=(R7.next t6).ins (fs':=f7 "most_crates" (V.int fl.ht) (f7 "stack_count" (V.int fl.st) [])) oW x6 hi
 refine(dS uM gI).to (zB 0 rfl (.inl rfl) hσ T.cl T.n3 (iB (i4 _ _ _) (by show 2 < 1000; decide)) (nm 3 rfl rfl) R8 bG fun v3 H7 t7 d7=> ?_)
 cases (show v3=V.int fl.lf from d7)
 have x7:=t7 _ _ bG
 have R9:=(R8.next t7).ins (fs':=f7 "crane_strength" (V.int fl.lf) (f7 "most_crates" (V.int fl.ht) (f7 "stack_count" (V.int fl.st) []))) oW x7 hi
 refine(qM uM).to (GF 0 rfl (.inl rfl) hσ T.cl T.n4 (iB (i4 _ _ _) (iB (Nat.succ_le_succ (i4 _ _ _)) (by show 3 < 1000; decide))) (az.toP (R:=fun d=> ∃qs:dZ,d= .tup (qs.map pairD)/\qs=gC fl.eE) (az.sortedSetT (ps:=fl.eE) rfl (iB (Nat.add_le_add_left (by decide:16<=16 * 4+200) _) (by have:=hr.un; rw [lH]at this; exact this)) rfl B.tuple rfl B.sorted rfl B.set (az.r (nm 4 rfl rfl)) hfew) ⟨_,rfl,rfl⟩) R9 bG fun d4 v4 H8 hd4 t8 d8=> ?_)
 obtain⟨qs,rfl,hq⟩:=hd4
 have x8:=t8 _ _ bG
 have R10:=(R9.next t8).ins (fs':=f7 "banned_pairs" v4 (f7 "crane_strength" (V.int fl.lf) (f7 "most_crates" (V.int fl.ht) (f7 "stack_count" (V.int fl.st) [])))) oW x8 hi
 have d9:Dn K M0 (upd H8 x (.ins C dx (f7 "banned_pairs" v4 (f7 "crane_strength" (V.int fl.lf) (f7 "most_crates" (V.int fl.ht) (f7 "stack_count" (V.int fl.st) [])))))) (.tup (qs.map pD)) v4:=Dn.noI (DV x8) 9 (Ba 7 qs) (d8.less fun a ha=> .inl ha)
 refine kk (su fl qs) [("stack_count", .int fl.st),("most_crates", .int fl.ht),("crane_strength", .int fl.lf),("banned_pairs",v4)] _ ⟨qs,rfl,hq⟩ R10.same (by rw [bG,K7]) rfl ⟨_,_,rfl,rfl,_,_,rfl,rfl,_,_,rfl,rfl,_,_,rfl,d9,rfl⟩
end
theorem HV(n d:Nat):HT.g7 n d (some 1)=min 1 n:=by
 unfold HT.g7
 simp
theorem Hv(ds:List D):cutD ds (some 1) none=ds.drop 1:=by
 unfold cutD
 rw [HV]
 cases ds with
 | nil=>rfl
 | cons a l=>
  have e:min 1 (a::l).length=1:=by simp
  rw [e]
  show((a::l).drop 1).take ((a::l).length - 1)=_
  rw [dw (by simp)]
def yp(f:c_)(r:List Int):Bool:= !((r.drop 1).zip r).any fun p=>decide (p∈f.eE)
theorem qX(f:c_)(r:List Int):fY f r=(decide ((r.length:Int)<=f.ht)&&(r.all gK&&yp f r)):=by
 unfold fY
 congr 1
 rw [fe]
 simp only [a8,dh,bA,yp,fu,List.any_eq_false,decide_eq_true_eq]
 have gd: ∀k (h:k < r.length),r.getD k 0=r[k]:=fun k h=>by rw [ao,ah h]; rfl
 constructor
 ·intro h
  refine⟨fun x hx=> ?_,fun p hp hm=> ?_⟩
  ·obtain⟨k,hk,rfl⟩:=dB hx
   have:=h k hk
   unfold tU at this
   rw [gd k hk,bA]at this
   exact this.1
  ·obtain⟨k,hk,e⟩:=dB hp
   rw [bK,bL]at hk
   have hk1:k+1 < r.length:=by omega
   have h1:=h (k+1) hk1
   unfold tU at h1
   rw [gd _ hk1,show k+1 - 1=k from rfl,gd k (by omega)]at h1
   rw [eP,dA]at e
   have e':(r[k+1],r[k])=p:=by
    rw [<-e]
    congr 2
    omega
   rw [e']at h1
   simp [hm]at h1
 ·rintro⟨h1,h2⟩ k hk
  unfold tU
  rw [gd k hk,bA]
  refine⟨h1 _ (aR hk), ?_⟩
  rw [fu,i8]
  by_cases h0:0 < k
  ·refine .inr (decide_eq_false ?_)
   rw [gd (k - 1) (by omega)]
   refine h2 _ ?_
   have hl:k - 1 < ((r.drop 1).zip r).length:=by rw [bK,bL]; omega
   have e:((r.drop 1).zip r)[k - 1]=(r[k],r[k - 1]):=by
    rw [eP,dA]
    congr 2
    omega
   rw [<-e]
   exact aR hl
  ·exact .inl (decide_eq_false h0)
structure fz(f:c_)(qs:dZ):Prop where
 ok:ql f
 ie:qs.length<=4
 mem: ∀q,q∈qs↔q∈f.eE
section
variable {P:av}{w:World}{K:Frag}{mg:Str->Option Value}{base:Heap}{CX:gM}{C:Addr}
structure Fl(P:av)(w:World)(K:Frag)(mg:Str->Option Value)(base:Heap)(CX:gM)(C:Addr):Prop where
 t:Jp K C
 st:Bb P w K mg base CX C
 ht:A9 P w K mg base CX C
 lf:Iu P w K mg base CX C
 bs:Ir P w K mg base CX C
theorem pZ:bQ ["floor","stack","bans"] ["floor","stack"] (aL lh):=⟨rfl,rfl,rfl,by decide +kernel,rfl,by decide +kernel,by decide +kernel⟩
abbrev nM(P:av)(w:World)(K:Frag)(mg:Str->Option Value)(base:Heap)(CX:gM)(C:Addr):Prop:=
 jU P w K mg base CX 3 "is_good_stack" (fun i:c_×dZ×List Int=> [iG C i.1 i.2.1,xN true (i.2.2.map .int)]) (fun i=>fz i.1 i.2.1/\i.2.2.length<=1000) (fun i=> .ok (.bl (fY i.1 i.2.2)))
theorem CK(as bs:List Int):pN (as.map .int) (bs.map .int)=(as.zip bs).map pD:=by
 unfold pN
 rw [List.zip_map,bV]
 rfl
theorem vx{f:Addr}{fd:bg}(nx:NX CX)(B:Bm mg)(L:Fl P w K mg base CX C)(G:va P w K mg base CX)(F:ji K "is_good_stack" "is_good_stack" lh f fd)(hm:mg "is_good_stack"=some (.ref f))(hb:Binds K fd ["floor","stack"] []):nM P w K mg base CX C:=by
 refine fN F pZ hm hb (fun i=>rfl) fun cdv A outer s H E i M0 hp hr=>⟨_,rfl, ?_⟩
 obtain⟨fl,qs,r⟩:=i
 obtain⟨hS,hlen⟩:fz fl qs/\r.length<=1000:=hp
 have px:=pZ.nd
 have hr1:=hr.mono (show 1<=2 by decide)
 change WS _ M0 H (bt lh) [.im (iG C fl qs), .im (.tup (r.map .int)), .un] _
 rw [qX]
 refine WS.cons (W1.ite (i6.t (i6.or (c8.not (c8.val (az.yb rfl B.yb rfl B.tuple (by decide +kernel) (.inr (.inr (.inr (.inl rfl)))) (az.r (nm 1 rfl rfl)) rfl))) fun _=>i6.or1 (c8.cI .gt (az.lenT rfl B.len (nm 1 rfl rfl)) (az.meth0 L.t.cl L.ht hr1 (bb nx) (fl,qs) (nm 0 rfl rfl) rfl trivial rfl)))) (fun h=> ?_) fun h=>WS.nil ?_)
 ·rw [oz,ae]at h
  have h':fl.ht < (r.length:Int):=by simpa using h
  exact WS.one (W1.ret az.bl (by dsimp only; rw [decide_eq_false (by omega)]; rfl))
 rw [oz,ae]at h
 have hle:(r.length:Int)<=fl.ht:=by
  have: ¬fl.ht < (r.length:Int):=by simpa using h
  omega
 rw [decide_eq_true hle,fF]
 refine WS.cons (W1.ite (c8.not (c8.val (az.all (bs:=r.map gK) rfl rfl B.all (az.r (ef.toD (ef.comp (ds:=r.map .int) (es:=(r.map gK).map D.bl) (cs:= []) (dE.closed (by decide +kernel) (by decide +kernel) rfl (by decide +kernel) rfl) rfl (by decide +kernel) (ja.tup (nm 1 rfl rfl)) r6 (by simp) (by rw [ae]; omega) ?_)))))) (fun h=> ?_) fun h=>WS.nil ?_)
 ·intro C s₀ H₀ fp pins i d e h1 h2
  rw [aj]at h1
  rw [aj,aj]at h2
  cases ei:r[i]? with
  | none=>rw [ei]at h1; cases h1
  | some v=>
   rw [ei]at h1 h2
   cases h1
   cases h2
   exact az.call G hr (bb nx) rfl v (bp.cons (nm 0 rfl rfl) bp.nil) trivial rfl
 ·have h':r.all gK=false:=by simpa using h
  exact WS.one (W1.ret az.bl (by rw [h']; rfl))
 have h':r.all gK=true:=by rw [jY]at h; simpa using h
 rw [h',fF]
 refine WS.cons (W1.set (i:=2) px rfl (.inr rfl) (g9 rfl) (az.meth0 L.t.cl L.bs hr1 (bb nx) (fl,qs) (nm 0 rfl rfl) rfl trivial rfl) ?_)
 change WS _ M0 H _ [.im (iG C fl qs), .im (.tup (r.map .int)), .im (.lst (qs.map pD))] _
 refine WS.one (W1.ret (az.to (az.not (az.any (bs:=((r.drop 1).zip r).map fun p=>decide (p∈fl.eE)) rfl rfl B.any (az.r (ef.toD (ef.comp (ds:=((r.drop 1).zip r).map pD) (es:=(((r.drop 1).zip r).map fun p=>decide (p∈fl.eE)).map D.bl) (cs:= [.lst (qs.map pD)]) (N':= ["pair","bans"]) (js:= [2])
  (dE.cap1 (pre:= [(".0", .local),("pair", .local)]) (post:= []) (rn:= [(".0", .local),("pair", .local),("bans", .cell)]) rfl (by decide +kernel) (by decide +kernel) rfl (by decide +kernel) rfl (by decide +kernel) rfl rfl rfl rfl rfl (by decide +kernel)) rfl (by decide +kernel)
  (ja.to (ja.zipT rfl B.zip (az.cutT (nm 1 rfl rfl) (Bj.some az.int) Bj.none) (nm 1 rfl rfl)) (by rw [Hv, <-lI,CK])) (si rfl) (by simp) (by rw [ae,bK]; omega) ?_))))) (by rw [List.any_map]; rfl)) rfl)
 intro C s₀ H₀ fp pins i d e h1 h2
 rw [aj]at h1
 rw [aj,aj]at h2
 cases ei:((r.drop 1).zip r)[i]? with
 | none=>rw [ei]at h1; cases h1
 | some v=>
  rw [ei]at h1 h2
  cases h1
  cases h2
  refine az.to (az.inL (xj hr) (az.r (nm 0 rfl rfl)) (az.r (nm 1 rfl rfl)) (vw 59 v) xi) ?_
  rw [o9]
  congr 1
  exact decide_eq_decide.mpr (hS.mem v)
end
abbrev Rows:=List (List Int)
abbrev ny:=Int×Int×Int
def tD(t:ny):D:= .tup [.int t.1, .int t.2.1, .int t.2.2]
def ux(f:c_)(v:Int):Bool:=decide (0<=v)&&decide (v<=f.st - 1)
def rowAt(rows:Rows)(v:Int):List Int:=rows.getD v.toNat []
def least(a b:Int):Int:=if b < a then b else a
def j6(f:c_)(rows:Rows)(t:ny):Bool:=(ux f t.1&&(ux f t.2.1&& !decide (t.1=t.2.1)))&&(decide (1<=t.2.2)&&decide (t.2.2<=least f.lf (rowAt rows t.1).length))
def mv(rows:Rows)(t:ny):Rows:=
 (rows.set t.1.toNat ((rowAt rows t.1).take ((rowAt rows t.1).length - t.2.2.toNat))).set t.2.1.toNat (rowAt rows t.2.1 ++ (rowAt rows t.1).drop ((rowAt rows t.1).length - t.2.2.toNat))
def isLet(f:c_)(rows:Rows)(t:ny):Bool:=j6 f rows t&&good f (mv rows t)
structure A4(f:c_)(rows:Rows)(t:ny):Prop where
 a0:0<=t.1
 a1:t.1 < f.st
 b0:0<=t.2.1
 b1:t.2.1 < f.st
 ne:t.1≠t.2.1
 n1:1<=t.2.2
 nl:t.2.2<=f.lf
 nr:t.2.2<=(rowAt rows t.1).length
theorem ll{f:c_}{rows:Rows}{t:ny}:j6 f rows t=true↔A4 f rows t:=by
 unfold j6 ux least
 simp only [bA,decide_eq_true_eq,fu,decide_eq_false_iff_not]
 constructor
 ·rintro⟨⟨⟨h1,h2⟩,⟨h3,h4⟩,h5⟩,h6,h7⟩
  split at h7
  ·exact⟨h1,by omega,h3,by omega,h5,h6,by omega,h7⟩
  ·exact⟨h1,by omega,h3,by omega,h5,h6,h7,by omega⟩
 ·rintro⟨h1,h2,h3,h4,h5,h6,h7,h8⟩
  refine⟨⟨⟨h1,by omega⟩,⟨h3,by omega⟩,h5⟩,h6, ?_⟩
  split <;> omega
theorem mi: ∀(rows:Rows) (i:Nat) (x:List Int),i < rows.length->(rows.set i x).flatten.Perm (x ++ (rows.set i []).flatten)
 | [],i,x,h=>absurd h (mZ _)
 | r::rows,0,x,h=>by simp
 | r::rows,i+1,x,h=>by
  have ih:=mi rows i x (by simpa using h)
  rw [FW,FW,cL,cL]
  refine(ih.append_left r).trans ?_
  rw [<-aP, <-aP]
  exact cK.append_right _
theorem mW{rows:Rows}{v:Int}(h0:0<=v)(h:v < rows.length):rows[v.toNat]? =some (rowAt rows v):=by
 unfold rowAt
 have:v.toNat < rows.length:=by omega
 rw [ao,ah this]
 rfl
theorem yx{rows:Rows}{i:Nat}{r:List Int}(h:rows[i]? =some r):rows.set i r=rows:=by
 apply cA
 intro j
 rw [fm]
 split
 ·rename_i e
  subst e
  have:i < rows.length:=(aD.mp h).1
  rw [if_pos this,h]
 ·rfl
theorem nG(rows:Rows)(t:ny):(mv rows t).length=rows.length:=by unfold mv; rw [bo,bo]
theorem we{f:c_}{rows:Rows}{t:ny}(hl:(rows.length:Int)=f.st)(h:A4 f rows t):(mv rows t).flatten.Perm rows.flatten:=by
 obtain⟨a0,a1,b0,b1,ne,n1,nl,nr⟩:=h
 have ha:t.1.toNat < rows.length:=by omega
 have hb:t.2.1.toNat < rows.length:=by omega
 have hne:t.1.toNat≠t.2.1.toNat:=by omega
 have ea:=mW a0 (by omega:t.1 < rows.length)
 have eb:=mW b0 (by omega:t.2.1 < rows.length)
 unfold mv
 generalize rowAt rows t.1=ra at *
 generalize rowAt rows t.2.1=rb at *
 generalize (ra.length - t.2.2.toNat)=k
 generalize t.1.toNat=i at *
 generalize t.2.1.toNat=j at *
 have p1:=mi (rows.set i (ra.take k)) j (rb ++ ra.drop k) (by rw [bo]; exact hb)
 have p2:=mi (rows.set j []) i (ra.take k) (by rw [bo]; exact ha)
 rw [List.set_comm (ra.take k) [] hne]at p1
 have q1:=mi rows i ra ha
 rw [yx ea]at q1
 have ejb:(rows.set i [])[j]? =some rb:=by rw [nX hne]; exact eb
 have q2:=mi (rows.set i []) j rb (by rw [bo]; exact hb)
 rw [yx ejb,List.set_comm _ _ hne]at q2
 refine p1.trans (((p2.append_left (rb ++ ra.drop k))).trans ((q1.trans (q2.append_left ra)).trans ?_).symm)
 generalize ((rows.set j []).set i []).flatten=rest
 have e:ra=ra.take k ++ ra.drop k:=(aX k ra).symm
 rw [<-aP, <-aP]
 refine List.Perm.append_right _ ?_
 refine cK.trans ?_
 rw [aP]
 refine dG rb ?_
 refine jP (List.Perm.of_eq e) cK
theorem Av(n d:Nat)(k:Nat)(h:k<=n):HT.g7 n d (some (k:Int))=k:=by
 unfold HT.g7
 simp
 rw [if_neg (by omega)]
 omega
theorem Jc{ds:List D}{k:Nat}(h:k<=ds.length):cutD ds none (some (k:Int))=ds.take k:=by
 unfold cutD
 rw [Av _ _ _ h]
 show(ds.drop 0).take (k - 0)=_
 rw [n8,Nat.sub_zero]
theorem Fx{ds:List D}{k:Nat}(h:k<=ds.length):cutD ds (some (k:Int)) none=ds.drop k:=by
 unfold cutD
 rw [Av _ _ _ h]
 show(ds.drop k).take (ds.length - k)=_
 rw [dw (by rw [bL]; exact ay _)]
theorem JE{X:Cx}{ρ:eZ}{a b:Expr}{p pos:Pos}{i j:Int}(hc:X.calm=true)(hg:Gl X "min")(hm:X.mg "min"=none)(ha:az X ρ a (.int i))(hb:az X ρ b (.int j))
  (he:ax [a,b] X.env=(false,eval a X.env)::ax [b] X.env:=by rfl)(he2:ax [b] X.env= [(false,eval b X.env)]:=by rfl)(hpl:(e_ pos (ax [b] X.env)).any (·.1)=false:=by rfl):az X ρ (.Call (.Name "min" p) [a,b] [] pos) (.int (if j < i then j else i)):=
 az.min hc hg hm (by decide +kernel) ha hb he he2 hpl
section
variable {P:av}{w:World}{K:Frag}{mg:Str->Option Value}{base:Heap}{CX:gM}{C:Addr}
theorem w_:bQ ["floor","standing","crates","stack"] ["floor","standing"] (aL qC):=⟨rfl,rfl,rfl,by decide +kernel,rfl,by decide +kernel,by decide +kernel⟩
structure Small(rows:Rows):Prop where
 fl:rows.flatten.length<=1000
 n:rows.length<=1000
abbrev qB(P:av)(w:World)(K:Frag)(mg:Str->Option Value)(base:Heap)(CX:gM)(C:Addr):Prop:=
 jU P w K mg base CX 4 "is_good" (fun i:c_×dZ×Rows=> [iG C i.1 i.2.1, .tup (bB true i.2.2)]) (fun i=>fz i.1 i.2.1/\Small i.2.2) (fun i=> .ok (.bl (good i.1 i.2.2)))
theorem BW{f:Addr}{fd:bg}(nx:NX CX)(B:Bm mg)(L:Fl P w K mg base CX C)(G:nM P w K mg base CX C)(F:ji K "is_good" "is_good" qC f fd)(hm:mg "is_good"=some (.ref f))(hb:Binds K fd ["floor","standing"] []):qB P w K mg base CX C:=by
 refine fN F w_ hm hb (fun i=>rfl) fun cdv A outer s H E i M0 hp hr=>⟨_,rfl, ?_⟩
 obtain⟨fl,qs,rows⟩:=i
 obtain⟨hS,hp1,hp2⟩:fz fl qs/\Small rows:=hp
 have px:=w_.nd
 have hlen:(bB true rows).length=rows.length:=ae ..
 change WS _ M0 H (bt qC) [.im (iG C fl qs), .im (.tup (bB true rows)), .un, .un] {N:=fun _=>D.bl (good fl rows)= .non,R:=fun d'=>d'= .bl (good fl rows)}
 refine WS.cons (W1.ite (i6.t (i6.or (c8.not (c8.val (az.yb rfl B.yb rfl B.tuple (by decide +kernel) (.inr (.inr (.inr (.inl rfl)))) (az.r (nm 1 rfl rfl)) rfl))) fun _=>i6.or1 (c8.cI .ne (az.lenT rfl B.len (nm 1 rfl rfl)) (az.meth0 L.t.cl L.st (hr.mono (by decide)) (bb nx) (fl,qs) (nm 0 rfl rfl) rfl trivial rfl)))) (fun h=> ?_) fun h=>WS.nil ?_)
 ·rw [oz,hlen]at h
  have h': ¬(rows.length:Int)=fl.st:=by simpa using h
  refine WS.one (W1.ret az.bl ?_)
  show D.bl false=D.bl (good fl rows)
  unfold good
  rw [decide_eq_false h']
  rfl
 rw [oz,hlen]at h
 have g1:(rows.length:Int)=fl.st:=by simpa using h
 refine WS.cons (W1.setF (i:=2) px rfl (.inl rfl) (g9 rfl) (ef.lst bp.nil) ?_)
 refine WS.cons (W1.for (ds:=bB true rows) (fun i ρ=>(rows.take i).all (fY fl)=true/\ ∃a,ρ= [.im (iG C fl qs), .im (.tup (bB true rows)), .mu ((rows.take i).flatten.map .int),a]) cy rfl (ja.tup (nm 1 rfl rfl)) ⟨by rw [iT]; rfl,_,by rw [iT]; rfl⟩ ?_ ?_)
 ·rintro i d ρ hd ⟨hall,a,rfl⟩
  obtain⟨r,hr',rfl⟩:=gJ hd
  have l1:=kf rows i
  have l2:=mK (aT hr')
  refine⟨_,yS.name (i:=3) px rfl (.inl rfl) (g9 rfl), ?_⟩
  change WS _ M0 H _ [.im (iG C fl qs), .im (.tup (bB true rows)), .mu ((rows.take i).flatten.map .int), .im (xN true (r.map .int))] _
  refine WS.cons (W1.ite (c8.not (c8.val (az.call G hr (bb nx) rfl (fl,qs,r) (bp.cons (nm 0 rfl rfl) (bp.cons (nm 3 rfl rfl) bp.nil)) ⟨hS,show r.length<=1000 by omega⟩ rfl))) (fun h3=> ?_) fun h3=>WS.nil ?_)
  ·refine WS.one (W1.ret az.bl ?_)
   have hf:fY fl r=false:=by simpa using h3
   show D.bl false=D.bl (good fl rows)
   unfold good
   have:rows.all (fY fl)=false:=by
    rw [Ge]
    exact⟨r,aT hr',by rw [hf]; exact aC⟩
   rw [this,iR]
  have hf:fY fl r=true:=by simpa using h3
  refine WS.one (W1.extend (i:=2) (fs:=r.map .int) rfl (.inl rfl) rfl (nm 3 rfl rfl) rfl (by rw [ae,ae]; omega) ?_ ⟨rfl,rfl,rfl,rfl⟩)
  refine⟨?_, ?_⟩
  ·rw [ft,hr',ue,hall]
   simp [hf]
  ·rw [pv hr',bD]
   exact⟨_,rfl⟩
 rintro ρ ⟨hall,a,rfl⟩
 rw [hlen,eO]at hall
 rw [hlen,eO]
 refine WS.one (W1.ret (az.cI .eq (az.lenSet rfl rfl B.len rfl B.set (BF 2 rfl rfl) (by omega)) (az.lenL rfl B.len (BF 2 rfl rfl))) ?_)
 show D.bl (decide (_=_))=D.bl (good fl rows)
 congr 1
 unfold good
 rw [decide_eq_true g1,hall,fF,jm,ae]
 apply decide_eq_decide.mpr
 rw [<-A7]
 omega
theorem Cz:bQ ["floor","value"] ["floor","value"] (aL oO):=⟨rfl,rfl,rfl,by decide +kernel,rfl,by decide +kernel,by decide +kernel⟩
abbrev r8(P:av)(w:World)(K:Frag)(mg:Str->Option Value)(base:Heap)(CX:gM)(C:Addr):Prop:=
 jU P w K mg base CX 2 "is_stack" (fun i:c_×dZ×Int=> [iG C i.1 i.2.1, .int i.2.2]) (fun _=>True) (fun i=> .ok (.bl (ux i.1 i.2.2)))
theorem zk{f:Addr}{fd:bg}(nx:NX CX)(L:Fl P w K mg base CX C)(G:lu P w K mg base CX)(F:ji K "is_stack" "is_stack" oO f fd)(hm:mg "is_stack"=some (.ref f))(hb:Binds K fd ["floor","value"] []):r8 P w K mg base CX C:=by
 refine fN F Cz hm hb (fun i=>rfl) fun cdv A outer s H E i M0 hp hr=>⟨_,rfl, ?_⟩
 obtain⟨fl,qs,v⟩:=i
 change WS _ M0 H (bt oO) [.im (iG C fl qs), .im (.int v)] _
 exact WS.one (W1.ret (az.call G hr (bb nx) rfl (v,0,fl.st - 1) (bp.cons (nm 1 rfl rfl) (bp.cons az.int (bp.cons (az.sub (az.meth0 L.t.cl L.st hr (bb nx) (fl,qs) (nm 0 rfl rfl) rfl trivial rfl) az.int) bp.nil))) trivial rfl) rfl)
theorem oN{rows:Rows}{v:Int}(h0:0<=v)(h:v < rows.length):uw (bB true rows) v=some (xN true ((rowAt rows v).map .int)):=by
 have e:v=((v.toNat:Nat):Int):=by omega
 have hl:(bB true rows).length=rows.length:=ae ..
 rw [rd e (by rw [hl]; omega)]
 have:=mW h0 h
 unfold bB
 rw [aV]
 congr 3
 have h2:v.toNat < rows.length:=by omega
 rw [ah h2]at this
 exact aA this
theorem IF:bQ ["floor","standing","lift","source","target"] ["floor","standing","lift"] (aL HJ):=⟨rfl,rfl,rfl,by decide +kernel,rfl,by decide +kernel,by decide +kernel⟩
abbrev JV(P:av)(w:World)(K:Frag)(mg:Str->Option Value)(base:Heap)(CX:gM)(C:Addr):Prop:=
 jU P w K mg base CX 3 "can_be_done" (fun i:c_×dZ×Rows×ny=> [iG C i.1 i.2.1, .tup (bB true i.2.2.1),tD i.2.2.2]) (fun i=>(i.2.2.1.length:Int)=i.1.st) (fun i=> .ok (.bl (j6 i.1 i.2.2.1 i.2.2.2)))
theorem Jm{f:Addr}{fd:bg}(nx:NX CX)(B:Bm mg)(L:Fl P w K mg base CX C)(G1:r8 P w K mg base CX C)(G2:lu P w K mg base CX)(F:ji K "can_be_done" "can_be_done" HJ f fd)(hm:mg "can_be_done"=some (.ref f))(hb:Binds K fd ["floor","standing","lift"] []):JV P w K mg base CX C:=by
 refine fN F IF hm hb (fun i=>rfl) fun cdv A outer s H E i M0 hp hr=>⟨_,rfl, ?_⟩
 obtain⟨fl,qs,rows,a,b,n⟩:=i
 have hl:(rows.length:Int)=fl.st:=hp
 have px:=IF.nd
 have hr1:=hr.mono (show 1<=2 by decide)
 change WS _ M0 H (bt HJ) [.im (iG C fl qs), .im (.tup (bB true rows)), .im (.tup [.int a, .int b, .int n]), .un, .un] {N:=fun _=>D.bl (j6 fl rows (a,b,n))= .non,R:=fun d'=>d'= .bl (j6 fl rows (a,b,n))}
 refine WS.cons (W1.ite (i6.t (i6.or (c8.not (c8.val (az.yb rfl B.yb rfl B.tuple (by decide +kernel) (.inr (.inr (.inr (.inl rfl)))) (az.r (nm 2 rfl rfl)) rfl))) fun _=>i6.or1 (c8.cI .ne (az.lenT rfl B.len (nm 2 rfl rfl)) az.int))) (fun h=> ?_) fun h=>WS.nil ?_)
 ·rw [oz]at h
  simp at h
 refine WS.cons (W1.set (i:=3) px rfl (.inl rfl) (g9 rfl) (az.ixT (nm 2 rfl rfl) az.int rfl) ?_)
 refine WS.cons (W1.set (i:=4) px rfl (.inl rfl) (g9 rfl) (az.ixT (nm 2 rfl rfl) az.int rfl) ?_)
 change WS _ M0 H _ [.im (iG C fl qs), .im (.tup (bB true rows)), .im (.tup [.int a, .int b, .int n]), .im (.int a), .im (.int b)] _
 refine WS.cons (W1.ite (i6.t (i6.or (c8.not (c8.val (az.call G1 hr (bb nx) rfl (fl,qs,a) (bp.cons (nm 0 rfl rfl) (bp.cons (nm 3 rfl rfl) bp.nil)) trivial rfl))) fun _=>i6.or (c8.not (c8.val (az.call G1 hr (bb nx) rfl (fl,qs,b) (bp.cons (nm 0 rfl rfl) (bp.cons (nm 4 rfl rfl) bp.nil)) trivial rfl))) fun _=>i6.or1 (c8.cI .eq (nm 3 rfl rfl) (nm 4 rfl rfl)))) (fun h=> ?_) fun h=>WS.nil ?_)
 ·refine WS.one (W1.ret az.bl ?_)
  show D.bl false=D.bl (j6 fl rows (a,b,n))
  have:(ux fl a&&(ux fl b&& !decide (a=b)))=false:=by
   cases h1:ux fl a <;> cases h2:ux fl b <;> simp_all
  unfold j6
  rw [this,fR]
 ·have h3:(ux fl a&&(ux fl b&& !decide (a=b)))=true:=by
   cases h1:ux fl a <;> cases h2:ux fl b <;> simp_all
  have ha:0<=a/\a < rows.length:=by
   rw [bA]at h3
   have:=h3.1
   unfold ux at this
   simp only [bA,decide_eq_true_eq]at this
   omega
  refine WS.one (W1.ret (az.call G2 hr1 (bb nx) rfl (n,1,least fl.lf (rowAt rows a).length) (bp.cons (az.ixT (nm 2 rfl rfl) az.int rfl) (bp.cons az.int (bp.cons ?_ bp.nil))) trivial rfl) ?_)
  ·exact(az.to (JE (i:=fl.lf) (j:=(rowAt rows a).length) rfl rfl B.min (az.meth0 L.t.cl L.lf hr1 (bb nx) (fl,qs) (nm 0 rfl rfl) rfl trivial rfl) (az.to (az.lenS (t:=true) rfl B.len (az.ixT (nm 1 rfl rfl) (nm 3 rfl rfl) (oN ha.1 ha.2))) (by rw [ae]))) rfl)
  show D.bl _=D.bl (j6 fl rows (a,b,n))
  unfold j6
  rw [h3,fF]
end
theorem uW(rows:Rows)(i:Nat)(r:List Int):bB true (rows.set i r)=(bB true rows).set i (.tup (r.map .int)):=by
 unfold bB
 rw [Am]
 rfl
structure Jo(rows:Rows)(t:ny):Prop where
 a0:0<=t.1
 a1:t.1 < rows.length
 b0:0<=t.2.1
 b1:t.2.1 < rows.length
 n0:0<=t.2.2
 nr:t.2.2<=(rowAt rows t.1).length
 sm:Small rows
theorem A4.mvOk{f:c_}{rows:Rows}{t:ny}(h:A4 f rows t)(hl:(rows.length:Int)=f.st)(sm:Small rows):Jo rows t:=⟨h.a0,by have:=h.a1; omega,h.b0,by have:=h.b1; omega,by have:=h.n1; omega,h.nr,sm⟩
theorem EZ{f:c_}{rows:Rows}{t:ny}(hl:(rows.length:Int)=f.st)(h:A4 f rows t)(sm:Small rows):Small (mv rows t):=⟨by rw [(we hl h).length_eq]; exact sm.fl,by rw [nG]; exact sm.n⟩
theorem uT{rows:Rows}{v:Int}(h0:0<=v)(h:v < rows.length):(rowAt rows v).length<=rows.flatten.length:=mK (aT (mW h0 h))
section
variable {P:av}{w:World}{K:Frag}{mg:Str->Option Value}{base:Heap}{CX:gM}{C:Addr}
theorem AF:bQ ["standing","lift","source","target","left","stacks"] ["standing","lift"] (aL vo):=⟨rfl,rfl,rfl,by decide +kernel,rfl,by decide +kernel,by decide +kernel⟩
abbrev vm(P:av)(w:World)(K:Frag)(mg:Str->Option Value)(base:Heap)(CX:gM):Prop:=
 jU P w K mg base CX 1 "moved" (fun i:Rows×ny=> [.tup (bB true i.1),tD i.2]) (fun i=>Jo i.1 i.2) (fun i=> .ok (.tup (bB true (mv i.1 i.2))))
theorem DI{f:Addr}{fd:bg}(B:Bm mg)(F:ji K "moved" "moved" vo f fd)(hm:mg "moved"=some (.ref f))(hb:Binds K fd ["standing","lift"] []):vm P w K mg base CX:=by
 refine fN F AF hm hb (fun i=>rfl) fun cdv A outer s H E i M0 hp hr=>⟨_,rfl, ?_⟩
 obtain⟨rows,a,b,n⟩:=i
 obtain⟨a0,a1,b0,b1,n0,nr,sm⟩:=(hp:Jo rows (a,b,n))
 dsimp only at a0 a1 b0 b1 n0 nr
 have px:=AF.nd
 have hl:(bB true rows).length=rows.length:=ae ..
 have ra:=uT a0 a1
 have rb:=uT b0 b1
 have sf:rows.flatten.length<=1000:=sm.fl
 have ek:((rowAt rows a).length:Int) - n=(((rowAt rows a).length - n.toNat:Nat):Int):=by omega
 change WS _ M0 H (bt vo) [.im (.tup (bB true rows)), .im (.tup [.int a, .int b, .int n]), .un, .un, .un, .un] {N:=fun _=>D.tup (bB true (mv rows (a,b,n)))= .non,R:=fun d'=>d'= .tup (bB true (mv rows (a,b,n)))}
 refine WS.cons (W1.set (i:=2) px rfl (.inl rfl) (g9 rfl) (az.ixT (nm 1 rfl rfl) az.int rfl) ?_)
 refine WS.cons (W1.set (i:=3) px rfl (.inl rfl) (g9 rfl) (az.ixT (nm 1 rfl rfl) az.int rfl) ?_)
 refine WS.cons (W1.set (i:=4) px rfl (.inl rfl) (g9 rfl) (az.to (az.sub (az.lenS (t:=true) rfl B.len (az.ixT (nm 0 rfl rfl) (nm 2 rfl rfl) (oN a0 a1))) (az.ixT (nm 1 rfl rfl) az.int rfl)) (by rw [ae,ek])) ?_)
 refine WS.cons (W1.setF (i:=5) px rfl (.inl rfl) (g9 rfl) (ef.listT rfl B.list (nm 0 rfl rfl)) ?_)
 change WS _ M0 H _ [.im (.tup (bB true rows)), .im (.tup [.int a, .int b, .int n]), .im (.int a), .im (.int b), .im (.int (((rowAt rows a).length - n.toNat:Nat):Int)), .mu (bB true rows)] _
 refine WS.cons (W1.setIx (i:=5) (n:=a.toNat) rfl (.inl rfl) rfl (az.to (az.cutT (az.ixT (nm 0 rfl rfl) (nm 2 rfl rfl) (oN a0 a1)) Bj.none (Bj.some (nm 4 rfl rfl))) (d':= .tup (((rowAt rows a).take ((rowAt rows a).length - n.toNat)).map .int)) (by rw [Jc (by rw [ae]; omega),yP])) (nm 2 rfl rfl) (by omega) (by rw [hl]; omega) ?_)
 dsimp only
 rw [<-uW]
 change WS _ M0 H _ [.im (.tup (bB true rows)), .im (.tup [.int a, .int b, .int n]), .im (.int a), .im (.int b), .im (.int (((rowAt rows a).length - n.toNat:Nat):Int)), .mu (bB true (rows.set a.toNat ((rowAt rows a).take ((rowAt rows a).length - n.toNat))))] _
 refine WS.cons (W1.setIx (i:=5) (n:=b.toNat) rfl (.inl rfl) rfl (az.to (az.catT (az.ixT (nm 0 rfl rfl) (nm 3 rfl rfl) (oN b0 b1)) (az.cutT (az.ixT (nm 0 rfl rfl) (nm 2 rfl rfl) (oN a0 a1)) (Bj.some (nm 4 rfl rfl)) Bj.none) ?_) (d':= .tup ((rowAt rows b ++ (rowAt rows a).drop ((rowAt rows a).length - n.toNat)).map .int)) ?_) (nm 3 rfl rfl) (by omega) ?_ ?_)
 ·rw [Fx (by rw [ae]; omega),ae,bL,ae]
  omega
 ·rw [Fx (by rw [ae]; omega),bD,lI]
 ·show b.toNat < ((rows.set a.toNat _).map _).length
  rw [ae,bo]
  omega
 dsimp only
 rw [<-uW]
 exact WS.one (W1.ret (az.tupleL rfl B.tuple (BF 5 rfl rfl)) rfl)
theorem HK:bQ ["floor","standing","lift"] ["floor","standing","lift"] (aL vY):=⟨rfl,rfl,rfl,by decide +kernel,rfl,by decide +kernel,by decide +kernel⟩
structure Dk(f:c_)(qs:dZ)(rows:Rows):Prop where
 s:fz f qs
 l:(rows.length:Int)=f.st
 sm:Small rows
abbrev zw(P:av)(w:World)(K:Frag)(mg:Str->Option Value)(base:Heap)(CX:gM)(C:Addr):Prop:=
 jU P w K mg base CX 5 "is_let" (fun i:c_×dZ×Rows×ny=> [iG C i.1 i.2.1, .tup (bB true i.2.2.1),tD i.2.2.2]) (fun i=>Dk i.1 i.2.1 i.2.2.1) (fun i=> .ok (.bl (isLet i.1 i.2.2.1 i.2.2.2)))
theorem Ey{f:Addr}{fd:bg}(nx:NX CX)(G1:JV P w K mg base CX C)(G2:qB P w K mg base CX C)(G3:vm P w K mg base CX)(F:ji K "is_let" "is_let" vY f fd)(hm:mg "is_let"=some (.ref f))(hb:Binds K fd ["floor","standing","lift"] []):zw P w K mg base CX C:=by
 refine fN F HK hm hb (fun i=>rfl) fun cdv A outer s H E i M0 hp hr=>⟨_,rfl, ?_⟩
 obtain⟨fl,qs,rows,t⟩:=i
 obtain⟨hS,hl,sm⟩:=(hp:Dk fl qs rows)
 change WS _ M0 H (bt vY) [.im (iG C fl qs), .im (.tup (bB true rows)), .im (tD t)] {N:=fun _=>D.bl (isLet fl rows t)= .non,R:=fun d'=>d'= .bl (isLet fl rows t)}
 refine WS.one (W1.ret (az.and (az.call G1 (hr.mono (by decide)) (bb nx) rfl (fl,qs,rows,t) (bp.cons (nm 0 rfl rfl) (bp.cons (nm 1 rfl rfl) (bp.cons (nm 2 rfl rfl) bp.nil))) hl rfl) fun hc=>az.one (az.call G2 hr (bb nx) rfl (fl,qs,mv rows t) (bp.cons (nm 0 rfl rfl) (bp.cons (az.call G3 (hr.mono (by decide)) (bb nx) rfl (rows,t) (bp.cons (nm 1 rfl rfl) (bp.cons (nm 2 rfl rfl) bp.nil)) ((ll.mp hc).mvOk hl sm) rfl) bp.nil)) ⟨hS,EZ hl (ll.mp hc) sm⟩ rfl)) rfl)
structure yy(f:c_)(qs:dZ)(rows:Rows):Prop where
 s:fz f qs
 g:good f rows=true
theorem yy.sm{f:c_}{qs:dZ}{rows:Rows}(h:yy f qs rows):Small rows:=by
 have h1:=r9 h.g h.s.ok.st.2 h.s.ok.ht.2
 have h2:=gB h.g
 have h3:=h.s.ok.st.2
 exact⟨by omega,by omega⟩
theorem yy.le{f:c_}{qs:dZ}{rows:Rows}(h:yy f qs rows):Dk f qs rows:=⟨h.s,gB h.g,h.sm⟩
theorem DR:bQ ["floor","standing"] ["floor","standing"] (aL oM):=⟨rfl,rfl,rfl,by decide +kernel,rfl,by decide +kernel,by decide +kernel⟩
abbrev Hl(P:av)(w:World)(K:Frag)(mg:Str->Option Value)(base:Heap)(CX:gM)(C:Addr):Prop:=
 jU P w K mg base CX 5 "refuse_unless_good" (fun i:c_×dZ×Rows=> [iG C i.1 i.2.1, .tup (bB true i.2.2)]) (fun i=>yy i.1 i.2.1 i.2.2) (fun i=> .ok .non)
def GC(a b k:Nat):ny:=((0:Int)+(a:Int),(0:Int)+(b:Int),(1:Int)+(k:Int))
def B7(f:c_)(rows:Rows)(a b n:Nat):List ny:=((bE n).map (GC a b)).filter (isLet f rows)
def Az(f:c_)(rows:Rows)(a m:Nat):List ny:=(bE m).flatMap fun b=>B7 f rows a b f.lf.toNat
def Cq(f:c_)(rows:Rows)(m:Nat):List ny:=(bE m).flatMap fun a=>Az f rows a f.st.toNat
def lets(f:c_)(rows:Rows):List ny:=Cq f rows f.st.toNat
theorem xG(f:c_)(rows:Rows)(a b n:Nat):B7 f rows a b (n+1)=B7 f rows a b n ++ (if isLet f rows (GC a b n)then [GC a b n]else []):=by
 unfold B7
 rw [mY,bD,List.filter_append]
 congr 1
 show List.filter _ [GC a b n]=_
 rw [List.filter_cons]
 rfl
theorem x3(f:c_)(rows:Rows)(a m:Nat):Az f rows a (m+1)=Az f rows a m ++ B7 f rows a m f.lf.toNat:=by
 unfold Az
 rw [mY,List.flatMap_append]
 simp
theorem xU(f:c_)(rows:Rows)(m:Nat):Cq f rows (m+1)=Cq f rows m ++ Az f rows m f.st.toNat:=by
 unfold Cq
 rw [mY,List.flatMap_append]
 simp
theorem AQ(f:c_)(rows:Rows)(a b n:Nat):(B7 f rows a b n).length<=n:=by
 unfold B7
 exact bj (List.length_filter_le _ _) (by rw [ae,bT]; exact ay _)
theorem vS(f:c_)(rows:Rows)(a:Nat): ∀m,(Az f rows a m).length<=f.lf.toNat * m
 | 0=>by simp [Az]
 | m+1=>by
  have h1:=vS f rows a m
  have h2:=AQ f rows a m f.lf.toNat
  rw [x3,aw,Nat.mul_succ]
  omega
theorem AK(f:c_)(rows:Rows): ∀m,(Cq f rows m).length<=f.lf.toNat * f.st.toNat * m
 | 0=>by simp [Cq]
 | m+1=>by
  have h1:=AK f rows m
  have h2:=vS f rows m f.st.toNat
  rw [xU,aw,Nat.mul_succ]
  omega
theorem DZ{f:c_}{rows:Rows}{t:ny}(h1:0<=f.st)(h2:0<=f.lf):t∈lets f rows↔isLet f rows t=true:=by
 unfold lets Cq Az B7
 simp only [Ie,dh,IG,aQ]
 constructor
 ·rintro⟨a,_,b,_,_,h⟩
  exact h
 ·intro h
  have hc:A4 f rows t:=ll.mp (by unfold isLet at h; rw [bA]at h; exact h.1)
  obtain⟨a0,a1,b0,b1,ne,n1,nl,nr⟩:=hc
  obtain⟨a,b,n⟩:=t
  dsimp only at *
  refine⟨a.toNat,by omega,b.toNat,by omega,⟨(n - 1).toNat,by omega, ?_⟩,h⟩
  unfold GC
  have e1:(0:Int)+(a.toNat:Int)=a:=by omega
  have e2:(0:Int)+(b.toNat:Int)=b:=by omega
  have e3:(1:Int)+((n - 1).toNat:Int)=n:=by omega
  rw [e1,e2,e3]
theorem AM:bQ ["floor","standing","found","source","target","many","lift"] ["floor","standing"] (aL rK):=⟨rfl,rfl,rfl,by decide +kernel,rfl,by decide +kernel,by decide +kernel⟩
abbrev zp(P:av)(w:World)(K:Frag)(mg:Str->Option Value)(base:Heap)(CX:gM)(C:Addr):Prop:=
 jU P w K mg base CX 6 "lifts" (fun i:c_×dZ×Rows=> [iG C i.1 i.2.1, .tup (bB true i.2.2)]) (fun i=>yy i.1 i.2.1 i.2.2) (fun i=> .ok (.lst ((lets i.1 i.2.2).map tD)))
end
section
variable {P:av}{w:World}{K:Frag}{mg:Str->Option Value}{base:Heap}{C CS CL:Addr}
abbrev kA(P:av)(w:World)(K:Frag)(mg:Str->Option Value)(base:Heap)(C CS:Addr):Prop:=
 jU P w K mg base (f6 P w) 5 "refuse_unless_good" (fun i:c_×dZ×Rows=> [iG C i.1 i.2.1, .tup (bB true i.2.2)]) (fun i=>fz i.1 i.2.1/\Small i.2.2) (fun i=>if good i.1 i.2.2 then .ok .non else .error CS)
theorem z5{f:Addr}{fd:bg}(er:tP "NoStanding" CS mg base)(G:qB P w K mg base (f6 P w) C)(F:ji K "refuse_unless_good" "refuse_unless_good" oM f fd)(hm:mg "refuse_unless_good"=some (.ref f))(hb:Binds K fd ["floor","standing"] []):kA P w K mg base C CS:=by
 refine jr F DR hm hb (fun i=>rfl) fun cdv A outer s H E i M0 hp hr=> ?_
 obtain⟨fl,qs,rows⟩:=i
 obtain⟨hS,sm⟩:fz fl qs/\Small rows:=hp
 have nx:NX (f6 P w):=i_
 by_cases hg:good fl rows=true
 ·refine .inl ⟨.non,if_pos hg, ?_⟩
  change WS _ M0 H (bt oM) [.im (iG C fl qs), .im (.tup (bB true rows))] {N:=fun _=>D.non= .non,R:=fun d'=>d'= .non}
  refine WS.one (W1.ite (c8.not (c8.val (az.call G hr (bb nx) rfl (fl,qs,rows) (bp.cons (nm 0 rfl rfl) (bp.cons (nm 1 rfl rfl) bp.nil)) ⟨hS,sm⟩ rfl))) (fun h=> ?_) fun h=>WS.nil rfl)
  rw [hg]at h
  cases h
 ·refine .inr ⟨CS,if_neg hg, ?_⟩
  change gi _ [.im (iG C fl qs), .im (.tup (bB true rows))] E (bt oM) CS
  refine gi.here (s_.ite (t:=true) (c8.to (c8.not (c8.val (az.call G hr (bb nx) rfl (fl,qs,rows) (bp.cons (nm 0 rfl rfl) (bp.cons (nm 1 rfl rfl) bp.nil)) ⟨hS,sm⟩ rfl))) (by simp [hg])) (fun _=>gi.here (s_.raise er rfl az.str)) fun h=>by cases h)
end
theorem i3{P:av}{w:World}{K:Frag}{mg:Str->Option Value}{base:Heap}{CX:gM}{k:Nat}{x:Str}{ι:Type}{args:ι->List D}{pre pre':ι->Prop}{res res':ι->Except Addr D}(F:jU P w K mg base CX k x args pre res)(h: ∀i,pre' i->pre i/\res i=res' i):jU P w K mg base CX k x args pre' res':=by
 obtain⟨f,fd,ps,F,r⟩:=F.ex
 refine⟨f,fd,ps,F.imp fun vs H Q E ⟨i,M0,hM,d,hp,k1,k2⟩=> ?_,r⟩
 obtain⟨p,e⟩:=h i hp
 exact⟨i,M0,hM,d,p,by rw [e]; exact k1,by rw [e]; exact k2⟩
section
variable {P:av}{w:World}{K:Frag}{mg:Str->Option Value}{base:Heap}{C CS CL:Addr}
theorem xV(G:kA P w K mg base C CS):Hl P w K mg base (f6 P w) C:=i3 G fun i h=>⟨⟨h.s,h.sm⟩,if_pos h.g⟩
abbrev vT(P:av)(w:World)(K:Frag)(mg:Str->Option Value)(base:Heap)(C CS:Addr):Prop:=
 jU P w K mg base (f6 P w) 6 "lifts" (fun i:c_×dZ×Rows=> [iG C i.1 i.2.1, .tup (bB true i.2.2)]) (fun i=>fz i.1 i.2.1/\Small i.2.2) (fun i=>if good i.1 i.2.2 then .ok (.lst ((lets i.1 i.2.2).map tD))else .error CS)
theorem BD{f:Addr}{fd:bg}(B:Bm mg)(L:Fl P w K mg base (f6 P w) C)(GX:kA P w K mg base C CS)(G2:zw P w K mg base (f6 P w) C)(F:ji K "lifts" "lifts" rK f fd)(hm:mg "lifts"=some (.ref f))(hb:Binds K fd ["floor","standing"] []):vT P w K mg base C CS:=by
 have nx:NX (f6 P w):=i_
 have G1:=xV GX
 refine jr F AM hm hb (fun i=>rfl) fun cdv A outer s H E i M0 hp hr=> ?_
 obtain⟨fl,qs,rows⟩:=i
 obtain⟨hS,sm⟩:fz fl qs/\Small rows:=hp
 by_cases hgd:good fl rows=true
 ·refine .inl ⟨_,if_pos hgd, ?_⟩
  have hg:yy fl qs rows:=⟨hS,hgd⟩
  have px:=AM.nd
  have hr1:=hr.mono (show 1<=5 by decide)
  have st:=hg.s.ok.st
  have lf:=hg.s.ok.lf
  have lft:fl.lf.toNat<=3:=by omega
  have stt:fl.st.toNat<=4:=by omega
  have b1:fl.lf.toNat * fl.st.toNat<=12:=Nat.mul_le_mul lft stt
  change WS _ M0 H (bt rK) [.im (iG C fl qs), .im (.tup (bB true rows)), .un, .un, .un, .un, .un] {N:=fun _=>D.lst ((lets fl rows).map tD)= .non,R:=fun d'=>d'= .lst ((lets fl rows).map tD)}
  refine WS.cons (W1.expr (az.call G1 hr (bb nx) rfl (fl,qs,rows) (bp.cons (nm 0 rfl rfl) (bp.cons (nm 1 rfl rfl) bp.nil)) hg rfl) ?_)
  refine WS.cons (W1.setF (i:=2) px rfl (.inl rfl) (g9 rfl) (ef.lst bp.nil) ?_)
  refine WS.cons (W1.for (ds:=kg 0 fl.st.toNat) (fun i ρ=> ∃a b c d,ρ= [.im (iG C fl qs), .im (.tup (bB true rows)), .mu ((Cq fl rows i).map tD),a,b,c,d]) cy rfl (ja.range rfl B.range (az.meth0 L.t.cl L.st hr1 (bb nx) (fl,qs) (nm 0 rfl rfl) rfl trivial rfl) (by omega)) ⟨_,_,_,_,rfl⟩ ?_ ?_)
  ·rintro i d ρ hd ⟨a,b,c,d',rfl⟩
   obtain⟨rfl,hi⟩:=jK hd
   have hl1:=AK fl rows i
   have b2:fl.lf.toNat * fl.st.toNat * i<=12 * 4:=Nat.mul_le_mul b1 (by omega)
   refine⟨_,yS.name (i:=3) px rfl (.inl rfl) (g9 rfl), ?_⟩
   refine WS.one (W1.for (ds:=kg 0 fl.st.toNat) (fun j ρ=> ∃b c d,ρ= [.im (iG C fl qs), .im (.tup (bB true rows)), .mu ((Cq fl rows i ++ Az fl rows i j).map tD), .im (.int (0+(i:Int))),b,c,d]) cy rfl (ja.range rfl B.range (az.meth0 L.t.cl L.st hr1 (bb nx) (fl,qs) (nm 0 rfl rfl) rfl trivial rfl) (by omega)) ⟨_,_,_,by rw [show Az fl rows i 0= []from rfl,bJ]; rfl⟩ ?_ ?_)
   ·rintro j d ρ hd ⟨b,c,d',rfl⟩
    obtain⟨rfl,hj⟩:=jK hd
    have hl2:=vS fl rows i j
    have b3:fl.lf.toNat * j<=3 * 4:=Nat.mul_le_mul lft (by omega)
    refine⟨_,yS.name (i:=4) px rfl (.inl rfl) (g9 rfl), ?_⟩
    refine WS.one (W1.for (ds:=kg 1 fl.lf.toNat) (fun k ρ=> ∃c d,ρ= [.im (iG C fl qs), .im (.tup (bB true rows)), .mu ((Cq fl rows i ++ Az fl rows i j ++ B7 fl rows i j k).map tD), .im (.int (0+(i:Int))), .im (.int (0+(j:Int))),c,d]) cy rfl
     (ja.to (ja.range2 (i:=1) (j:=fl.lf+1) rfl B.range az.int (az.add (az.meth0 L.t.cl L.lf hr1 (bb nx) (fl,qs) (nm 0 rfl rfl) rfl trivial rfl) az.int) (by omega)) (by congr 1; omega)) ⟨_,_,by rw [show B7 fl rows i j 0= []from rfl,bJ]; rfl⟩ ?_ ?_)
    ·rintro k d ρ hd ⟨c,d',rfl⟩
     obtain⟨rfl,hk⟩:=jK hd
     have hl3:=AQ fl rows i j k
     refine⟨_,yS.name (i:=5) px rfl (.inl rfl) (g9 rfl), ?_⟩
     refine WS.cons (W1.set (i:=6) px rfl (.inl rfl) (g9 rfl) (az.tup (bp.cons (nm 3 rfl rfl) (bp.cons (nm 4 rfl rfl) (bp.cons (nm 5 rfl rfl) bp.nil)))) ?_)
     change WS _ M0 H _ [.im (iG C fl qs), .im (.tup (bB true rows)), .mu ((Cq fl rows i ++ Az fl rows i j ++ B7 fl rows i j k).map tD), .im (.int (0+(i:Int))), .im (.int (0+(j:Int))), .im (.int (1+(k:Int))), .im (tD (GC i j k))] _
     refine WS.one (W1.ite (c8.val (az.call G2 hr (bb nx) rfl (fl,qs,rows,GC i j k) (bp.cons (nm 0 rfl rfl) (bp.cons (nm 1 rfl rfl) (bp.cons (nm 6 rfl rfl) bp.nil))) hg.le rfl)) (fun h=> ?_) fun h=>WS.nil ?_)
     ·refine WS.one (W1.append (i:=2) rfl (.inl rfl) rfl (nm 6 rfl rfl) (by rw [ae,aw,aw]; omega) ?_ ⟨rfl,rfl,rfl,rfl⟩)
      have e:(Cq fl rows i ++ Az fl rows i j ++ B7 fl rows i j (k+1)).map tD=(Cq fl rows i ++ Az fl rows i j ++ B7 fl rows i j k).map tD ++ [tD (GC i j k)]:=by
       rw [xG,if_pos h, <-aP,bD (l₂:= [GC i j k])]
       rfl
      exact⟨_,_,by rw [e]; rfl⟩
     ·dsimp only
      rw [xG,if_neg (by rw [h]; exact aC),bJ]
      exact⟨_,_,rfl⟩
    ·rintro ρ ⟨c,d,rfl⟩
     rw [gT]
     dsimp only
     rw [x3, <-aP]
     exact⟨_,_,_,rfl⟩
   ·rintro ρ ⟨b,c,d,rfl⟩
    rw [gT]
    dsimp only
    rw [xU]
    exact⟨_,_,_,_,rfl⟩
  ·rintro ρ ⟨a,b,c,d,rfl⟩
   rw [gT]
   exact WS.freeze (i:=2) rfl (WS.one (W1.ret (nm 2 rfl rfl) rfl))
 ·refine .inr ⟨CS,if_neg hgd, ?_⟩
  change gi _ [.im (iG C fl qs), .im (.tup (bB true rows)), .un, .un, .un, .un, .un] E (bt rK) CS
  exact gi.here (s_.expr (FX.call (i:=(fl,qs,rows)) GX hr k_ rfl (bp.cons (nm 0 rfl rfl) (bp.cons (nm 1 rfl rfl) bp.nil)) ⟨hS,sm⟩ (if_neg hgd)))
end
def bk(t:ny):ny:=(t.2.1,t.1,t.2.2)
abbrev rT(rows:Rows):D:= .tup (bB true rows)
theorem rB(ns:List Int)(first:Nat): ∀k,(gf ns first 5 k).all jj=true
 | 0=>rfl
 | k+1=>by
  have ih:=rB ns first k
  unfold gf
  dsimp only
  split
  ·exact ih
  ·rename_i hne
   rw [ue,ih,fF]
   simp only [List.all_cons,List.all_nil,jm]
   unfold jj gK
   dsimp only
   have h1:=gn (cellAt ns (first+1+k)) (show((5:Nat):Int)≠0 by decide)
   have h2:=eT (cellAt ns (first+1+k)) (show(0:Int) < ((5:Nat):Int) by decide)
   have h3:=gn (cellAt ns (first+1+k) / ((5:Nat):Int)) (show((5:Nat):Int)≠0 by decide)
   have h4:=eT (cellAt ns (first+1+k) / ((5:Nat):Int)) (show(0:Int) < ((5:Nat):Int) by decide)
   rw [decide_eq_true h1,decide_eq_true h3,decide_eq_false hne,decide_eq_true (by omega),decide_eq_true (by omega)]
   rfl
theorem Ha(ns:List Int):ql (rk ns 0 5):=by
 refine⟨?_, ?_, ?_, ?_,rB ns 0 _⟩
 ·show 2<=2+_ % 3/\2+_ % 3<=4
  omega
 ·show 1<=1+_ % 6/\1+_ % 6<=6
  omega
 ·show 1<=1+_ % 3/\1+_ % 3<=3
  omega
 ·have:=ma ns 0 5 (cellAt ns 0 / 72 % 5).toNat
  have h2:(cellAt ns 0 / 72 % 5).toNat<=4:=by omega
  exact bj this h2
end K
namespace Z
section
variable {α:Type} [DecidableEq α]
def visit(h:Int)(kv:List (α×Int))(k:α):List (α×Int):=if k∈kv.map (·.1)then kv else kv ++ [(k,h+1)]
def nq(nb:α->List α)(kv:List (α×Int))(d:Nat):List (α×Int):=match kv[d]? with
 | some (k,h)=>(nb k).foldl (visit h) kv
 | none=>kv
def Hr(nb:α->List α):Nat->List (α×Int)->Nat->List (α×Int)
 | 0,kv,_=>kv
 | n+1,kv,d=>if d < kv.length then Hr nb n (nq nb kv d) (d+1)else kv
variable {nb:α->List α}{g:α}
structure BI(nb:α->List α)(g:α)(kv:List (α×Int))(d:Nat):Prop where
 fst:kv[0]? =some (g,0)
 nd:(kv.map (·.1)).Nodup
 par: ∀(j:Nat) k h,kv[j]? =some (k,h)->0 < j-> ∃i k' h',i < j/\i < d/\kv[i]? =some (k',h')/\k∈nb k'/\h=h'+1
 HL: ∀(i:Nat) k h,i < d->kv[i]? =some (k,h)-> ∀k'∈nb k, ∃h',(k',h')∈kv/\h'<=h+1
 asc: ∀(i j:Nat) k h k' h',i<=j->kv[i]? =some (k,h)->kv[j]? =some (k',h')->h<=h'
 top: ∀(i:Nat) k h k' h',d<=i->kv[i]? =some (k,h)->(k',h')∈kv->h'<=h+1
theorem BI.start:BI nb g [(g,0)] 0:=by
 refine⟨rfl,by simp,fun j k h e hj=> ?_,fun i k h hi=>absurd hi (by omega),fun i j k h k' h' hij e1 e2=> ?_,fun i k h k' h' _ e1 e2=> ?_⟩
 ·rw [aI (by simp; omega)]at e; cases e
 ·have h1:i=0:=by
   rcases kx i with z | z
   ·exact z
   ·rw [aI (by simp; omega)]at e1; cases e1
  have h2:j=0:=by
   rcases kx j with z | z
   ·exact z
   ·rw [aI (by simp; omega)]at e2; cases e2
  subst h1 h2
  rw [e1]at e2
  cases e2
  exact tx _
 ·have h1:i=0:=by
   rcases kx i with z | z
   ·exact z
   ·rw [aI (by simp; omega)]at e1; cases e1
  subst h1
  cases e1
  have:(k',h')=(g,0):=by simpa using e2
  cases this
  decide
structure BM(nb:α->List α)(g:α)(kv:List (α×Int))(d:Nat)(k0:α)(h0:Int)(l:List α):Prop where
 fst:kv[0]? =some (g,0)
 nd:(kv.map (·.1)).Nodup
 at_:kv[d]? =some (k0,h0)
 par: ∀(j:Nat) k h,kv[j]? =some (k,h)->0 < j-> ∃i k' h',i < j/\i < d+1/\kv[i]? =some (k',h')/\k∈nb k'/\h=h'+1
 HL: ∀(i:Nat) k h,i < d->kv[i]? =some (k,h)-> ∀k'∈nb k, ∃h',(k',h')∈kv/\h'<=h+1
 now: ∀k'∈l, ∃h',(k',h')∈kv/\h'<=h0+1
 asc: ∀(i j:Nat) k h k' h',i<=j->kv[i]? =some (k,h)->kv[j]? =some (k',h')->h<=h'
 top: ∀k' h',(k',h')∈kv->h'<=h0+1
theorem BM.visit{kv:List (α×Int)}{d:Nat}{k0:α}{h0:Int}{l:List α}(b:BM nb g kv d k0 h0 l){k:α}(hk:k∈nb k0):BM nb g (visit h0 kv k) d k0 h0 (l ++ [k]):=by
 unfold Z.visit
 by_cases e:k∈kv.map (·.1)
 ·rw [if_pos e]
  refine⟨b.fst,b.nd,b.at_,b.par,b.HL,fun k' hk'=> ?_,b.asc,b.top⟩
  rcases bI.mp hk' with z | z
  ·exact b.now k' z
  ·rcases aK.mp z with rfl
   obtain⟨⟨k1,h1⟩,h2,rfl⟩:=aQ.mp e
   exact⟨h1,h2,b.top _ _ h2⟩
 ·rw [if_neg e]
  have up: ∀{i:Nat} {x:α×Int},kv[i]? =some x->(kv ++ [(k,h0+1)])[i]? =some x:=fun{i x} z=>by rw [fb (aD.mp z).1]; exact z
  have cs: ∀{i:Nat} {x:α×Int},(kv ++ [(k,h0+1)])[i]? =some x->kv[i]? =some x\/(i=kv.length/\x=(k,h0+1)):=fun{i x} z=>by
   rcases Gh i kv.length with y | y | y
   ·rw [fb y]at z; exact .inl z
   ·subst y; rw [eS (ay _),jZ]at z; exact .inr ⟨rfl,by cases z; rfl⟩
   ·rw [aI (by rw [aw,eY]; omega)]at z; cases z
  have hd:=(aD.mp b.at_).1
  refine⟨up b.fst, ?_,up b.at_,fun j k1 h1 z hj=> ?_,fun i k1 h1 hi z k' hk'=> ?_,fun k' hk'=> ?_,fun i j k1 h1 k2 h2 hij z1 z2=> ?_,fun k' h' z=> ?_⟩
  ·rw [bD,iU]
   refine⟨b.nd,by simp,fun x hx y hy=> ?_⟩
   rcases aK.mp hy with rfl
   rintro rfl
   exact e hx
  ·rcases cs z with z | ⟨rfl,q⟩
   ·obtain⟨i,k',h',a1,a2,a3,a4⟩:=b.par j k1 h1 z hj
    exact⟨i,k',h',a1,a2,up a3,a4⟩
   ·cases q
    exact⟨d,k0,h0,hd,by omega,up b.at_,hk,rfl⟩
  ·rcases cs z with z | ⟨rfl,z⟩
   ·obtain⟨h',a1,a2⟩:=b.HL i k1 h1 hi z k' hk'
    exact⟨h',fh _ a1,a2⟩
   ·omega
  ·rcases bI.mp hk' with z | z
   ·obtain⟨h',a1,a2⟩:=b.now k' z
    exact⟨h',fh _ a1,a2⟩
   ·rcases aK.mp z with rfl
    exact⟨h0+1,by simp,tx _⟩
  ·rcases cs z1 with z1 | ⟨rfl,q1⟩
   ·rcases cs z2 with z2 | ⟨rfl,q⟩
    ·exact b.asc i j k1 h1 k2 h2 hij z1 z2
    ·cases q
     exact b.top _ _ (aT z1)
   ·rcases cs z2 with z2 | ⟨hq,q2⟩
    ·have:=(aD.mp z2).1
     omega
    ·cases q1; cases q2; exact tx _
  ·rcases bI.mp z with z | z
   ·exact b.top k' h' z
   ·cases aK.mp z
    exact tx _
theorem BM.all{d:Nat}{k0:α}{h0:Int}: ∀(m l:List α) {kv:List (α×Int)},BM nb g kv d k0 h0 l->(∀k∈m,k∈nb k0)->BM nb g (m.foldl (Z.visit h0) kv) d k0 h0 (l ++ m)
 | [],l,kv,b,_=>by rw [bJ]; exact b
 | k::m,l,kv,b,hm=>by
  have:=BM.all m (l ++ [k]) (b.visit (hm k (.head _))) fun x hx=>hm x (.tail _ hx)
  rw [aP]at this
  exact this
theorem BI.mid{kv:List (α×Int)}{d:Nat}{k0:α}{h0:Int}(b:BI nb g kv d)(e:kv[d]? =some (k0,h0)):BM nb g kv d k0 h0 []:=
 ⟨b.fst,b.nd,e,fun j k h z hj=>let⟨i,k',h',a1,a2,a3⟩:=b.par j k h z hj; ⟨i,k',h',a1,by omega,a3⟩,b.HL,fun k' hk'=>(by cases hk'),b.asc,fun k' h' z=>b.top d k0 h0 k' h' (ay _) e z⟩
theorem BM.next{kv:List (α×Int)}{d:Nat}{k0:α}{h0:Int}(b:BM nb g kv d k0 h0 (nb k0)):BI nb g kv (d+1):=by
 refine⟨b.fst,b.nd,b.par,fun i k h hi z k' hk'=> ?_,b.asc,fun i k h k' h' hi z1 z2=> ?_⟩
 ·by_cases hid:i=d
  ·subst hid
   rw [b.at_]at z
   cases z
   exact b.now k' hk'
  ·exact b.HL i k h (by omega) z k' hk'
 ·have h1:=b.top k' h' z2
  have h2:=b.asc d i _ _ _ _ (by omega) b.at_ z1
  omega
theorem BI.step{kv:List (α×Int)}{d:Nat}(b:BI nb g kv d)(hd:d < kv.length):BI nb g (nq nb kv d) (d+1):=by
 have e:kv[d]? =some (kv[d].1,kv[d].2):=ah hd
 unfold nq
 rw [e]
 have:=BM.all (nb kv[d].1) [] (b.mid e) fun k hk=>hk
 exact BM.next this
theorem Cs(h:Int)(kv:List (α×Int))(k:α):kv <+:visit h kv k:=by
 unfold visit
 split
 ·exact Ig _
 ·exact List.prefix_append _ _
theorem nH(h:Int): ∀(m:List α) (kv:List (α×Int)),kv <+:m.foldl (visit h) kv
 | [],kv=>Ig _
 | k::m,kv=>(Cs h kv k).trans (nH h m _)
theorem uN(kv:List (α×Int))(d:Nat):kv <+:nq nb kv d:=by
 unfold nq
 split
 ·exact nH _ _ _
 ·exact Ig _
theorem nz{P:α->Prop}(h:Int): ∀(m:List α) (kv:List (α×Int)),(∀x∈kv,P x.1)->(∀k∈m,P k)-> ∀x∈m.foldl (visit h) kv,P x.1
 | [],kv,hk,_=>hk
 | k::m,kv,hk,hm=>by
  refine nz h m _ ?_ fun x hx=>hm x (.tail _ hx)
  unfold visit
  split
  ·exact hk
  ·intro x hx
   rcases bI.mp hx with hx | hx
   ·exact hk x hx
   ·rcases aK.mp hx with rfl
    exact hm k (.head _)
theorem uF{P:α->Prop}{kv:List (α×Int)}{d:Nat}(hc: ∀k,P k-> ∀k'∈nb k,P k')(hk: ∀x∈kv,P x.1): ∀x∈nq nb kv d,P x.1:=by
 unfold nq
 split
 ·rename_i k h e
  exact nz h _ kv hk fun k' hk'=>hc k (hk _ (aT e)) k' hk'
 ·exact hk
theorem zy{β:Type} [DecidableEq β]: ∀{l m:List β},l.Nodup->(∀x∈l,x∈m)->l.length<=m.length
 | [],m,_,_=>bW _
 | x::l,m,hn,hs=>by
  have hx:=hs x (.head _)
  have:=zy (l:=l) (m:=m.erase x) (d_.mp hn).2 fun y hy=>(CY fun z:y=x=>(d_.mp hn).1 (z▸hy)).mpr (hs y (.tail _ hy))
  rw [yM hx]at this
  have h0:=List.length_pos_of_mem hx
  rw [aH]
  omega
theorem Br{P:α->Prop}{N:Nat}(hc: ∀k,P k-> ∀k'∈nb k,P k')(hN: ∀kv:List (α×Int),(kv.map (·.1)).Nodup->(∀x∈kv,P x.1)->kv.length<=N):
  ∀(n:Nat) (kv:List (α×Int)) (d:Nat),BI nb g kv d->(∀x∈kv,P x.1)->d<=kv.length->N<=n+d-> ∃d',BI nb g (Hr nb n kv d) d'/\(∀x∈Hr nb n kv d,P x.1)/\(Hr nb n kv d).length<=d'
 | 0,kv,d,b,hp,hd,hn=>⟨d,b,hp,by have:=hN kv b.nd hp; show kv.length<=d; omega⟩
 | n+1,kv,d,b,hp,hd,hn=>by
  unfold Hr
  by_cases h:d < kv.length
  ·rw [if_pos h]
   have:=(uN (nb:=nb) kv d).length_le
   exact Br hc hN n _ (d+1) (b.step h) (uF hc hp) (by omega) (by omega)
  ·rw [if_neg h]
   exact⟨d,b,hp,by omega⟩
structure BE(nb:α->List α)(g:α)(kv:List (α×Int)):Prop where
 nd:(kv.map (·.1)).Nodup
 goal:(g,0)∈kv
 HL: ∀k h,(k,h)∈kv-> ∀k'∈nb k, ∃h',(k',h')∈kv/\h'<=h+1
 par: ∀k h,(k,h)∈kv->(k=g/\h=0)\/ ∃k' h',(k',h')∈kv/\k∈nb k'/\h=h'+1
 nn: ∀k h,(k,h)∈kv->0<=h
theorem BI.fin{kv:List (α×Int)}{d:Nat}(b:BI nb g kv d)(hd:kv.length<=d):BE nb g kv:=by
 refine⟨b.nd,aT b.fst,fun k h hk=> ?_,fun k h hk=> ?_,fun k h hk=> ?_⟩
 ·obtain⟨i,hi,e⟩:=aN.mp hk
  exact b.HL i k h (by omega) (by rw [ah hi,e])
 ·obtain⟨i,hi,e⟩:=aN.mp hk
  rcases kx i with rfl | z
  ·have:=b.fst
   rw [ah hi,e]at this
   cases this
   exact .inl ⟨rfl,rfl⟩
  ·obtain⟨j,k',h',_,_,a3,a4,a5⟩:=b.par i k h (by rw [ah hi,e]) z
   exact .inr ⟨k',h',aT a3,a4,a5⟩
 ·obtain⟨i,hi,e⟩:=aN.mp hk
  exact b.asc 0 i g 0 k h (bW _) b.fst (by rw [ah hi,e])
theorem BE.uniq{kv:List (α×Int)}(b:BE nb g kv){k:α}{h h':Int}(h1:(k,h)∈kv)(h2:(k,h')∈kv):h=h':=by
 obtain⟨i,hi,e1⟩:=aN.mp h1
 obtain⟨j,hj,e2⟩:=aN.mp h2
 have:i=j:=by
  refine(gW (xs:=kv.map (·.1)) (h₀:=by rw [ae]; exact hi) (h₁:=by rw [ae]; exact hj) b.nd).mp ?_
  rw [aV,aV,e1,e2]
 subst this
 rw [e1]at e2
 cases e2
 rfl
end
section
variable {β:Type}
def words(l:List β):Nat->List (List β)
 | 0=> [[]]
 | n+1=>l.flatMap fun x=>(words l n).map (x:: ·)
theorem pB{l:List β}: ∀{n:Nat} {w:List β},w.length=n->(∀x∈w,x∈l)->w∈words l n
 | 0, [],_,_=> .head _
 | n+1,x::w,hl,hx=>by
  unfold words
  refine Ie.mpr ⟨x,hx x (.head _),aQ.mpr ⟨w,pB (by simpa using hl) fun y hy=>hx y (.tail _ hy),rfl⟩⟩
theorem o_(l:List β): ∀n:Nat,(words l n).length=l.length ^ n
 | 0=>rfl
 | n+1=>by
  unfold words
  rw [List.length_flatMap]
  have:(l.map fun x=>((words l n).map (x:: ·)).length)=l.map fun _=>l.length ^ n:=List.map_congr_left fun x _=>by rw [ae,o_ l n]
  rw [this,List.map_const',List.sum_replicate_nat,Nat.pow_succ,Nat.mul_comm]
end
theorem AS: ∀{a b:List (List Int)},a.flatten=b.flatten->a.map kZ=b.map kZ->a=b
 | [], [],_,_=>rfl
 | [],_::_,_,h=>by simp at h
 | _::_, [],_,h=>by simp at h
 | x::a,y::b,h1,h2=>by
  rw [aY,aY]at h2
  injection h2 with e1 e2
  rw [cL,cL]at h1
  obtain⟨e3,e4⟩:=List.append_inj h1 e1
  rw [e3,AS e4 e2]
theorem p_{r:List Int}: ∀{a:List (List Int)},r∈a->r.length<=a.flatten.length
 | x::a,h=>by
  rw [cL,aw]
  rcases aO.mp h with rfl | h
  ·omega
  ·have:=p_ h
   omega
def Of(c:List Int)(m:Nat)(k:List (List Int)):Prop:=k.flatten.Perm c/\k.length=m
theorem I9{c:List Int}{m:Nat}(hc:c.length<=4)(hm:m<=4){kv:List (List (List Int)×Int)}(nd:(kv.map (·.1)).Nodup)(h: ∀x∈kv,Of c m x.1):kv.length<=160000:=by
 have e:(kv.map (·.1)).length=kv.length:=ae _
 have nd2:((kv.map (·.1)).map fun k=>(k.flatten,k.map kZ)).Nodup:=by
  refine List.Pairwise.map _ (fun a b hab z=>hab ?_) nd
  exact AS (qy.mp z).1 (qy.mp z).2
 have sub: ∀x∈(kv.map (·.1)).map (fun k=>(k.flatten,k.map kZ)),x∈(words c c.length).flatMap fun u=>(words (bE (c.length+1)) m).map fun v=>(u,v):=fun x hx=>by
  obtain⟨k,hk,rfl⟩:=aQ.mp hx
  obtain⟨p,hp,rfl⟩:=aQ.mp hk
  obtain⟨h1,h2⟩:=h p hp
  refine Ie.mpr ⟨_,pB h1.length_eq fun y hy=>h1.mem_iff.mp hy,aQ.mpr ⟨_,pB (by rw [ae]; exact h2) fun y hy=> ?_,rfl⟩⟩
  obtain⟨r,hr,rfl⟩:=aQ.mp hy
  have:=p_ hr
  rw [h1.length_eq]at this
  exact dh.mpr (by omega)
 have:=zy nd2 sub
 rw [ae,e,List.length_flatMap]at this
 have q:((words c c.length).map fun u=>((words (bE (c.length+1)) m).map fun v=>(u,v)).length)=(words c c.length).map fun _=>(c.length+1) ^ m:=List.map_congr_left fun x _=>by rw [ae,o_,bT]
 rw [q,List.map_const',List.sum_replicate_nat,o_]at this
 refine bj this ?_
 generalize c.length=n at hc
 have a1:n=0\/n=1\/n=2\/n=3\/n=4:=by omega
 have a2:m=0\/m=1\/m=2\/m=3\/m=4:=by omega
 clear this h nd nd2 sub e q hm
 rcases a1 with rfl | rfl | rfl | rfl | rfl <;> rcases a2 with rfl | rfl | rfl | rfl | rfl <;> decide
end Z
namespace Z
open PySem PySem.Spec PyProof.Rows L2
theorem DP.exact{X:Cx}{ρ:eZ}{e:Expr}{R:D->Prop}{d:D}(h:DP X ρ e R)(u: ∀d',R d'->d'=d):az X ρ e d:=fun M0 H0 γ α σ H Q r k=>h M0 H0 γ α σ H Q r fun d' v H' q s x=>k v H' s (u d' q▸x)
section
variable {X:Cx}{N':List Str}{js:List Nat}{scope:Scope}{x z:Str}{cl:List (Str×Addr)}{px pz pos tp:Pos}{tk:Nat}{elt iter:Expr}{ds:List (D×D)}{es cs:List D}
theorem W1.comp2{ρ:eZ}{M0:MP}{H0:Hp}{P:pE}{i:Nat}{y:Str}{py spos:Pos}(ok:iw X N' js scope x z cl)(hc:X.calm=true)(hnd:N'.Nodup)(hs:ja X ρ (.Tuple [.Name x px, .Name z pz] tk tp) iter (ds.map fun d=>D.tup [d.1,d.2]))(hcs:xI ρ js cs)(hl:es.length=ds.length)(hsz:ds.length<=1000000)
  (helt: ∀(C:Addr) (s₀:ai) (H₀:Hp) (fp:List Addr) (pins:List (Addr×Obj)) (i:Nat) (d:D×D) (e:D),ds[i]? =some d->es[i]? =some e->az (iM X N' scope cl C s₀ H₀ fp pins) (oB d cs) elt e)
  (hN:X.N.Nodup)(hi:X.N[i]? =some y)(hy:X.env.scope.names.lookup y=some .local)(hlt:i < ρ.length)(q:P.N (ρ.set i (.mu es)))
  (hsw:cO (.ListComp elt [⟨.Tuple [.Name x px, .Name z pz] tk tp,iter, [],0⟩] scope pos) (some (.Name y py)) spos.line X.env=pure true:=by rfl)(hfi: ∀v,iO iter X.env v=pure v:=by intro _; rfl):
  W1 X M0 H0 (.Assign [.Name y py] (.ListComp elt [⟨.Tuple [.Name x px, .Name z pz] tk tp,iter, [],0⟩] scope pos) spos) ρ P:=fun γ α σ H R pins s I=>by
 rw [exec_Assign_Name_used _ _ _ _ hsw]
 refine aa (o5 (aa ?_))
 show wpAny _ X.A (do let _<-comprehension (.ListComp elt [⟨.Tuple [.Name x px, .Name z pz] tk tp,iter, [],0⟩] scope pos) scope X.env _ (u4 []) false (eval iter X.env) (some (ko (.Name y py) X.env))) _ _ s
 refine aa (cF (yK (use:=some (ko (.Name y py) X.env)) (Q:=fun _ s'=>SP X pins (ends X.K M0 H0 γ P) .next s') rfl hfi ok.w8 ok.kind ok.names ?_) (fun _ s' hq=>ag (ag hq)) fun _ _ e=>e)
 have h:=hs M0 H0 γ α σ H (fun J H1=> ∃gs,bP H H1/\(∀p∈gs,Dn X.K (MM M0 ρ α) H1 p.1 p.2)/\Walk X.K J (ds.map fun d=>D.tup [d.1,d.2]) gs) R (fun J H1 gs s g w=>⟨gs,s,g,w⟩) pins s I
 refine eQ h fun v s1 h1=>eQ h1 fun itv s2 ⟨it,fp,tn,J,H1,e,I2,T,st,f,gs,sm,hg,w⟩=> ?_
 subst e
 refine w9 ok hc hnd I2 T st f hg w hl hsz (hcs.ok R sm) (jE R sm) (fun C s₀ H₀ i d e=>helt C s₀ H₀ fp pins i d e) fun D0 C m s1 H2 ys I1 hn fo hD sm1 ha dn=> ?_
 show wpAny _ _ (ko (.Name y py) X.env (.ref D0)) _ _ s1
 refine Gb (pj (v:= .ref D0) I1 hN hi (.inl hy) rfl (fun s' I' ⟨a,sb,ea⟩=> ?_) (.inr hy))
 have hCa:C≠a:=by
  rcases ea with rfl | ea
  ·exact fo.2.1
  ·exact fun z=>fo.2.2.2.2.1 y a ea z.symm
 refine⟨m,hn.at' fun o e=>sb.extBut C o hCa e,fun h' sb'=>⟨_,H2,I'.turned (t':=s'.toks) (fun b o hb e=>sb'.extBut b o hb e) fo.1 fo.2.1 fo.2.2.2.1 fo.2.2.2.2.1 fo.2.2.2.2.2, ?_⟩⟩
 exact⟨_,_,(R.next sm).set_mu hlt hD sm1 ha dn,q⟩
end
end Z
namespace Z
theorem Ly{α:Type _}: ∀(us:List α),us.length=1-> ∃a,us= [a]
 | [a],_=>⟨a,rfl⟩
theorem LX{α:Type _}: ∀(us:List α),us.length=2-> ∃a b,us= [a,b]
 | [a,b],_=>⟨a,b,rfl⟩
theorem L7{α:Type _}: ∀(us:List α),us.length=3-> ∃a b c,us= [a,b,c]
 | [a,b,c],_=>⟨a,b,c,rfl⟩
theorem LB{α:Type _}: ∀(us:List α),us.length=5-> ∃a b c d e,us= [a,b,c,d,e]
 | [a,b,c,d,e],_=>⟨a,b,c,d,e,rfl⟩
end Z
namespace Z
open PySem L2 PyProof.Rows
section
variable {X:Cx}{ρ:eZ}{M0:MP}{H0:Hp}{P:pE}{e:Expr}{pos p2 p3 q2 q3:Pos}
theorem W1.appPop{i j n:Nat}{x y:Str}{zs os:List Int}{c k:Int}{p1 q1:Pos}(hi:X.N[i]? =some x)(hv:wM X.env.scope x)(hρ:ρ[i]? =some (.mu (zs.map .int)))(hj:X.N[j]? =some y)(hvy:wM X.env.scope y)(hρj:ρ[j]? =some (.mu (os.map .int)))(hij:j≠i)(h:az X ρ e (.int k))
  (hk:k=(n:Int))(hn:zs[n]? =some c)(hn2:n < 1000000)(hl:os.length < 1000000)(q:P.N ((ρ.set i (.mu ((zs.eraseIdx n).map .int))).set j (.mu ((os ++ [c]).map .int))))
  (mc:IB X (.Name x p1) "pop" e p2 p3)(mc2:IB X (.Name y q1) "append" (.Call (.Attribute (.Name x p1) "pop" p2) [e] [] p3) q2 q3)(hd:(x==("__debug__":Str))=false:=by decide)(hcd:(x==("__classdict__":Str))=false:=by decide)(hdy:(y==("__debug__":Str))=false:=by decide)(hcdy:(y==("__classdict__":Str))=false:=by decide)
  (hsw:cO (.Call (.Attribute (.Name y q1) "append" q2) [.Call (.Attribute (.Name x p1) "pop" p2) [e] [] p3] [] q3) none pos.line X.env=pure false:=by rfl):
  W1 X M0 H0 (.Expr (.Call (.Attribute (.Name y q1) "append" q2) [.Call (.Attribute (.Name x p1) "pop" p2) [e] [] p3] [] q3) pos) ρ P:=fun γ α σ H R=>by
 obtain⟨m1,m2,m3,m4⟩:=mc
 obtain⟨n1,n2,n3,n4⟩:=mc2
 obtain⟨a1,a2,xs,a3,a4⟩:=R.mu i _ hρ
 obtain⟨b1,b2,ys,b3,b4⟩:=R.mu j _ hρj
 refine(mF (xh fV yI yJ kM (jF hj hvy hdy hcdy) (dQ (xh fV PySem.F.slot_list_pop PySem.F.type_list_pop xc (jF hi hv hd hcd) vh m1 m2 m3 m4 rfl) gD n4) n1 n2 n3 n4 rfl) hsw).to ?_
 refine⟨_,b2, .inl ⟨rfl,_,lq.of b3⟩,_,a2, .inl ⟨rfl,_,lq.of a3⟩,(bp.cons h bp.nil m4) M0 H0 γ α σ H _ R fun vs H1 s y1=> ?_⟩
 obtain⟨u1,r,rfl,e1,e2⟩:=y1
 cases e2
 cases (show u1= .int k from e1)
 subst hk
 have hxs:xs=zs.map V.int:=a4.ints
 subst hxs
 have hnl:n < zs.length:=(aD.mp hn).1
 have R1:=(R.next s).upd_mu (es:=(zs.eraseIdx n).map .int) (ys:=(zs.eraseIdx n).map V.int) hρ (cE.of_ints _)
 have er:(zs.map V.int).eraseIdx n=(zs.eraseIdx n).map V.int:=by
  rw [List.eraseIdx_eq_take_drop_succ,List.eraseIdx_eq_take_drop_succ,bD,yP,lI]
 have hρ2:(ρ.set i (.mu ((zs.eraseIdx n).map .int)))[j]? =some (.mu (os.map .int)):=by rw [nX (ot hij)]; exact hρj
 obtain⟨c1,c2,ws,c3,c4⟩:=R1.mu j _ hρ2
 have hws:ws=os.map V.int:=c4.ints
 subst hws
 have R2:=R1.upd_mu (es:=(os ++ [c]).map .int) (ys:=(os ++ [c]).map V.int) hρ2 (cE.of_ints _)
 refine⟨α i,zs.map V.int,(n:Int),n, .int c,rfl,rfl,s _ _ a3,by omega,by omega,(oA (by unfold C5; rw [ae,if_pos (by omega),if_pos (by omega)]; simp)).1,by rw [aj,hn]; rfl, ?_⟩
 rw [er]
 refine⟨α j,os.map V.int, .int c,rfl,rfl,c3,by rw [ae]; exact vB hl,α,_, ?_,q⟩
 rw [bD (f:=V.int)]at R2
 exact R2
end
end Z
namespace Z
open PySem PySem.Spec PyProof.Rows L2
theorem mL{H H1:Hp}{l:Addr}(s:bP H H1):bP (eu H l) (eu H1 l):=fun b o e=>by
 unfold eu at e ⊢
 split at e
 ·cases e
 ·rename_i h
  rw [if_neg h]
  exact s b o e
theorem jI{H:Hp}{l b:Addr}{o:HO}(h:b≠l)(e:H b=some o):eu H l b=some o:=by unfold eu; rw [if_neg h]; exact e
end Z
namespace Z
open PySem PySem.Spec PyProof.Rows
end Z
namespace Z
open PySem PySem.Spec PyProof.Rows L2
end Z
namespace Z
open PySem PySem.Spec PySem.W PyProof.Rows
structure kH(h:Heap)(d:Addr)(es:Array dJ)(ep:Nat):Prop where
 ex: ∃o,h.get? d=some o/\o.ExactDict/\o.data= .dict es ep
theorem kH.at{h h':Heap}{d:Addr}{es:Array dJ}{ep:Nat}(x:kH h d es ep)(k: ∀o,h.get? d=some o->h'.get? d=some o):kH h' d es ep:=let⟨o,h1,r⟩:=x.ex; ⟨o,k o h1,r⟩
def j0(d:Addr)(i n ep:Nat):Obj:={cls:= .type "dict_keyiterator",data:= .fields #[.ref d, .int i 0, .int n 0, .int ep 0]}
section
variable {prog:av}{w:World}{A:bC}{E:Value->ai->Prop}{s:ai}{d:Addr}{es:Array dJ}{ep:Nat}
theorem kH.ty(x:kH s.heap d es ep):s.TypeIs (.ref d) "dict":=let⟨o,h1,h2,_⟩:=x.ex; ⟨o,h1,h2.1⟩
theorem Ew{Q:Value->ai->Prop}(hd:(d==iA)=false)(x:kH s.heap d es ep)(h:Q (.ref s.heap.objs.size) {s with heap:=s.heap.push (j0 d 0 es.size ep)}):wpAny (model prog w) A (sT (.ref d)) Q E s:=by
 have ty:=x.ty
 obtain⟨o,k1,k2,k3⟩:=x.ex
 refine iW ty PySem.F.slot_dict_iter (bh PySem.F.slot_dict_iter ty PySem.F.entry_dict_iter ?_ (PySem.F.args_dict_iter_1 _))
 unfold cP.«dict.__iter__»
 refine aa ?_
 unfold Builtin.Dict.dictSlotNone
 refine aa (wpAny_notOrdered_dict ty ?_)
 show wpAny _ _ (pure (aq d)) _ _ s
 refine ag ?_
 show wpAny _ _ (nj d >>=_) _ _ s
 unfold nj
 rw [if_neg (by rw [hd]; exact aC)]
 refine aa (ag ?_)
 refine aa (qz k1 k3 ?_)
 refine aa (ui k1 k3 ?_)
 refine aa (a_ (ag ⟨_,rfl,"dict_keyiterator",_,⟨_,ar _ rfl,rfl⟩,iD.lookup, ?_⟩))
 simpa [dI,j0]using h
theorem yd{I:Addr}{i:Nat}{Q:Option Value->ai->Prop}(hh:A.handled=none)(hI:s.heap.get? I=some (j0 d i es.size ep))(x:kH s.heap d es ep)
  (h1: ∀(hi:i < es.size) (h':Heap),h'.get? I=some (j0 d (i+1) es.size ep)->aW I s.heap h'->Q (some es[i].key) {s with heap:=h'})
  (h2:es.size<=i-> ∀h',tm I s.heap h'->Q none {s with heap:=h'}):wpAny (model prog w) A (gF (.ref I)) Q E s:=by
 have ty:s.TypeIs (.ref I) "dict_keyiterator":=⟨_,hI,rfl⟩
 obtain⟨o,k1,k2,k3⟩:=x.ex
 unfold gF
 refine aa (hV (bM (name:=dP "__next__") ty iD (bh iD ty PySem.F.entry_dict_keyiterator_next ?_ (PySem.F.args_dict_keyiterator_next_1 _))))
 refine aa (ag ?_)
 refine aa ?_
 refine aa ?_
 first | refine aa (tF ty (ag ?_)) | refine aa (yQ ty (ag ?_))
 refine aa (wpAny_fieldsOf hI rfl ?_)
 have own:uj "dict_keyiterator"=false:=by decide
 simp only [own,aS,if_false]
 show wpAny _ _ (if(aq d==bf)=true then _ else _) _ _ s
 rw [if_neg (show ¬((aq d==bf)=true)from aC)]
 refine aa (ag ?_)
 refine aa (qz k1 k3 ?_)
 rw [if_neg (by simp)]
 refine aa (ag ?_)
 refine aa (ui k1 k3 ?_)
 rw [if_neg (by simp)]
 refine ag ?_
 by_cases hi:i < es.size
 ·simp only [show ¬((i:Int) < 0)from by omega,if_false,bU,cT hi]
  refine aa ?_
  first | refine aa (tF ty (ag ?_)) | refine aa (yQ ty (ag ?_))
  refine aa (wpAny_isOneOf_keyiter ty ?_)
  show wpAny _ _ (fw (.ref I) 1 (dI ((i:Int)+1)) >>=_) _ _ s
  refine aa (cY hI rfl (by show 1 < 4; decide) ?_)
  have hI':(s.heap.update I (gw (·.setIfInBounds 1 (dI ((i:Int)+1))))).get? I=some (j0 d (i+1) es.size ep):=cU _ hI rfl
  refine aa (bq ?_)
  refine aa (wpAny_isOneOf_keyiter (s:={s with heap:=s.heap.update I (gw (·.setIfInBounds 1 (dI ((i:Int)+1))))}) ⟨_,hI',rfl⟩ ?_)
  show wpAny _ _ (pure es[i].key) _ _ _
  exact ag (ag ⟨_,rfl,ag (h1 hi _ hI' (bu ..))⟩)
 ·have hi:es.size<=i:=by omega
  simp only [show ¬((i:Int) < 0)from by omega,if_false,bU,Array.getElem?_eq_none hi]
  refine aa ?_
  first | refine aa (tF ty (ag ?_)) | refine aa (yQ ty (ag ?_))
  show wpAny _ _ (fw (.ref I) 0 .none >>=_) _ _ s
  refine aa (cY hI rfl (by show 0 < 4; decide) ?_)
  show wpAny _ _ (oh (.type "StopIteration") [] >>=_) _ _ _
  refine aa ?_
  simp only [oh,newTuple]
  refine aa (a_ ?_ (by size_fits))
  refine aa (m:=eV _ _) (n_ (a:=bf) (by first | rfl | (simp only [eV]; rfl)) ?_)
  refine a_ ?_ (by size_fits)
  simp only [wI]
  refine aa (o6 ?_)
  rw [show A.in1.handled=none from hh]
  refine aa (ag (tq ?_))
  refine aa (dO (T:="StopIteration") (b:=true) ⟨_,ar _ rfl,rfl⟩ oi ?_)
  exact ag (h2 hi _ (((bu ..).extBut.push _).push _))
theorem BL(hh:A.handled=none){I:Addr}(hId:I≠d):Walks prog w A I [I,d] [I] es.size (fun i v=> ∃hi:i < es.size,v=es[i].key) (fun i h=>h.get? I=some (j0 d i es.size ep)/\kH h d es ep) where
 sub:=fun b hb=>by rw [aK.mp hb]; exact bO
 frame:=fun i h h' ⟨x,y⟩ hk=>⟨hk I (by simp) _ x,y.at fun o e=>hk d (by simp) o e⟩
 item:=fun i s Q E hi ⟨x,y⟩ hQ=>yd hh x y (fun hi h' hI' sb=>hQ _ h' s.toks ⟨hi,rfl⟩ ⟨hI',y.at fun o e=>(sb.2 d hId.symm).trans e⟩ fun b ob hb q=>(sb.2 b (by simpa using hb)).trans q) fun he=>absurd hi (by omega)
 done:=fun s Q E ⟨x,y⟩ hQ=>yd hh x y (fun hi=>absurd hi (by omega)) fun _ h' eb=>hQ h' s.toks fun b ob hb q=>eb b ob (by simpa using hb) q
 self:=fun i s Q E ⟨x,y⟩ hQ=>by
  have ty:s.TypeIs (.ref I) "dict_keyiterator":=⟨_,x,rfl⟩
  refine iW ty PySem.F.slot_dict_keyiterator_iter (bh PySem.F.slot_dict_keyiterator_iter ty PySem.F.entry_dict_keyiterator_iter ?_ (PySem.F.args_dict_keyiterator_iter_1 _))
  show wpAny _ _ (ret (.ref I)) _ _ s
  exact ag ⟨_,rfl,"dict_keyiterator",_,ty,iD.lookup,hQ⟩
end
section
variable {prog:av}{w:World}{A:bC}{E:Value->ai->Prop}{s:ai}{d:Addr}{es:Array dJ}{ep:Nat}
theorem yh{Q:List Value->ai->Prop}(hh:A.handled=none)(hd:(d==iA)=false)(x:kH s.heap d es ep)(ie:es.size<=sizeLine)
  (hQ: ∀h' tk,s.heap.objs.size < h'.objs.size->(∀b ob,s.heap.get? b=some ob->h'.get? b=some ob)->Q (es.toList.map (·.key)) {s with heap:=h',toks:=tk}):wpAny (model prog w) A (collect (.ref d)) Q E s:=by
 obtain⟨o,k1,k2,k3⟩:=x.ex
 have hlt:d < s.heap.objs.size:=au k1
 unfold collect
 refine aa (wH (cZ u7 ?_))
 rw [cC u9 _]
 show wpAny _ A.in1 (u4 [] >>=fun l=>again (.builtin "list.__iadd__" ⟨[l, .ref d], []⟩)) _ _ s
 refine aa (a_ ?_)
 refine ag ⟨dg fW _,cZ y4 ?_⟩
 rw [cC fW _]
 have x1:kH (s.heap.push {cls:= .type "list",data:= .seq ([]:List Value).toArray}) d es ep:=x.at fun o e=>af _ e
 have hS₁:(s.heap.push {cls:= .type "list",data:= .seq ([]:List Value).toArray}).get? s.heap.objs.size=some {cls:= .type "list",data:= .seq ([]:List Value).toArray}:=ar _ rfl
 have h1:fG (.ref s.heap.objs.size) (.ref d)=false:=by simp [fG,bH hlt]
 have ty:gu {s with heap:=s.heap.push {cls:= .type "list",data:= .seq ([]:List Value).toArray}} (.ref d) "dict":=x1.ty (s:={s with heap:=s.heap.push {cls:= .type "list",data:= .seq ([]:List Value).toArray}})
 show wpAny _ A.in1 (eJ (.ref s.heap.objs.size) (.ref d) (.ref s.heap.objs.size)) _ _ _
 unfold eJ
 refine aa (fj ty ?_)
 rw [if_neg (by rw [h1]; decide)]
 refine aa (Ew (s:={s with heap:=s.heap.push {cls:= .type "list",data:= .seq ([]:List Value).toArray}}) hd x1 ?_)
 refine aa (bq ?_)
 unfold u_
 have x2:kH ((s.heap.push {cls:= .type "list",data:= .seq ([]:List Value).toArray}).push (j0 d 0 es.size ep)) d es ep:=x1.at fun o e=>af _ e
 have ty2:gu {s with heap:=(s.heap.push {cls:= .type "list",data:= .seq ([]:List Value).toArray}).push (j0 d 0 es.size ep)} (.ref d) "dict":=x2.ty (s:={s with heap:=(s.heap.push {cls:= .type "list",data:= .seq ([]:List Value).toArray}).push (j0 d 0 es.size ep)})
 refine aa (gq ty2 PySem.F.slot_dict_len.lookup ?_)
 generalize hid:("dict.__len__":String)=id0
 dsimp only
 rw [show splitId id0=some ("dict","__len__")from by subst hid; decide +kernel]
 subst hid
 dsimp only
 refine aa (dO (b:=true) ty2 (by rw [og]; kernel_rfl) ?_)
 rw [if_neg (show ¬(!true)=true by decide)]
 refine cG (fun _=> ?_) fun hs=>(hs (by decide +kernel)).elim
 refine aa (fj ty2 (ag ?_))
 have szl:(s.heap.push {cls:= .type "list",data:= .seq ([]:List Value).toArray}).objs.size=s.heap.objs.size+1:=bX ..
 have hne:s.heap.objs.size≠(s.heap.push {cls:= .type "list",data:= .seq ([]:List Value).toArray}).objs.size:=by rw [szl]; exact aF (fU _)
 have hId:(s.heap.push {cls:= .type "list",data:= .seq ([]:List Value).toArray}).objs.size≠d:=by rw [szl]; exact bH (cB hlt)
 have hL2:((s.heap.push {cls:= .type "list",data:= .seq ([]:List Value).toArray}).push (j0 d 0 es.size ep)).get? s.heap.objs.size=some {cls:= .type "list",data:= .seq ([]:List Value).toArray}:=af _ hS₁
 have hI2:((s.heap.push {cls:= .type "list",data:= .seq ([]:List Value).toArray}).push (j0 d 0 es.size ep)).get? (s.heap.push {cls:= .type "list",data:= .seq ([]:List Value).toArray}).objs.size=some (j0 d 0 es.size ep):=ar _ rfl
 have hk2: ∀b ob,s.heap.get? b=some ob->((s.heap.push {cls:= .type "list",data:= .seq ([]:List Value).toArray}).push (j0 d 0 es.size ep)).get? b=some ob:=fun b ob e=>af _ (af _ e)
 generalize hI0:(s.heap.push {cls:= .type "list",data:= .seq ([]:List Value).toArray}).objs.size=I0 at hne hId hI2 szl ⊢
 generalize hH0:(s.heap.push {cls:= .type "list",data:= .seq ([]:List Value).toArray}).push (j0 d 0 es.size ep)=H0 at hL2 hI2 hk2 x2 ⊢
 have fin: ∀(h':Heap) (c:Nat),aW s.heap.objs.size H0 h'->h'.get? s.heap.objs.size=some {cls:= .type "list",dict:=none,data:= .seq #[] c,slots:= #[]}->
   f9 (model prog w) A (.builtin "list.extend.loop" ⟨[.ref s.heap.objs.size, .ref I0, .ref s.heap.objs.size], []⟩) (fun r s'=>match r with
       | sV (Flow.ret v)=>
        wpAny (model prog w) A
         (match v with
         | aq a=>do
          let __do_lift<-load a
          match __do_lift.data with
           | wF xs epoch=>pure xs.toList
           | x=>iE "internal:collect"
         | x=>iE "internal:collect")
         Q E s'
       | sV a=>False
       | Except.error e=>E e s') {s with heap:=h'}:=fun h' c sb hl=>by
  refine codeAny_extend_loopS ((BL (A:=A.in1) (by simpa using hh) hId).toS) ie s.heap.objs.size (by simp only [aO,c9,or_false,not_or]; exact⟨hne,bH hlt⟩) _ es.size 0 _ #[] c (by omega) (bW _)
   ⟨(sb.2 I0 hne.symm).trans hI2,x2.at fun o e=>(sb.2 d (aF hlt)).trans e⟩ hl (ItemsOf.nil _) fun s' acc c' hm hS' hacc=> ?_
  dsimp only
  refine aa (wz hS' ?_)
  refine ag ?_
  obtain⟨h2,g',d',tk',os'⟩:=s'
  have eg:g'=s.gens:=hm.gens
  have ed:d'=s.drawn:=hm.drawn
  have eo:os'=s.os:=hm.os
  subst eg; subst ed; subst eo
  have e:acc.toList=es.toList.map (·.key):=by
   apply cA
   intro i
   rw [aj]
   by_cases hi:i < es.size
   ·have hi2:i < acc.size:=by rw [hacc.1]; exact hi
    have h1:acc[i]? =some acc[i]:=cT hi2
    obtain⟨_,hv⟩:=hacc.2 i _ h1
    have h3:acc.toList[i]? =some acc[i]:=by rw [bz]; exact h1
    have h4:es.toList[i]? =some es[i]:=by simp [hi]
    rw [h3,h4,hv]
    rfl
   ·have h1:acc.toList[i]? =none:=aI (by rw [ak,hacc.1]; omega)
    have h2:es.toList[i]? =none:=aI (by rw [ak]; omega)
    rw [h1,h2]
    rfl
  rw [e]
  refine hQ h2 tk' (au hS') (fun b ob e=> ?_)
  have hb:=au e
  refine hm.heap b ob ?_ ((sb.2 b (aF hb)).trans (hk2 b ob e))
  simp only [aO,c9,or_false,not_or]
  exact⟨aF hb,by rw [szl]; exact aF (cB hb)⟩
 refine cG (fun _=> ?_) fun _=> ?_
 ·refine aa (c7 ?_)
  unfold An
  refine aa (aa (hW hL2 rfl ?_ (by show 0<=_; omega) (by show 1<=_; rw [eL]; omega)))
  have hL3:=ff hL2 fun x=>x.push bf
  refine hW hL3 rfl ?_ (by show 1<=_; rw [eL]; omega) (by show 0<=_; omega)
  have hL4:=ff hL3 fun x=>x.pop
  exact ag ⟨dg cD _,fin _ _ ((bu ..).trans (bu ..)) hL4⟩
 ·exact ag ⟨dg cD _,fin _ _ (bN _ _) hL2⟩
end
def gV(f0 f1 ok ov:Value)(d:Addr)(i n ep:Nat):Obj:={cls:= .type "dict_itemiterator",data:= .fields #[f0,f1, .ref d, .int i 0, .int n 0, .int ep 0,ok,ov]}
def xq(d:Addr):Obj:={cls:= .type "dict_items",data:= .fields #[.ref d]}
def fK(e:dJ):Obj:={cls:= .type "tuple",data:= .seq #[e.key,e.val]}
section
variable {prog:av}{w:World}{A:bC}{E:Value->ai->Prop}{s:ai}{d v:Addr}{es:Array dJ}{ep:Nat}
theorem Cr(hd:(d==iA)=false):MeetsIn prog w (cP.«dict.items» ⟨[.ref d], []⟩) (fun _ R s=>kH s.heap d es ep/\R (.ok (.ret (.ref s.heap.objs.size))) {s with heap:=s.heap.push (xq d)}):=
 .of_wp fun A R s ⟨x,h⟩=>by
  unfold cP.«dict.items»
  refine aa ?_
  unfold Builtin.Dict.noArgs
  refine aa (wpAny_notOrdered_dict x.ty ?_)
  show wpAny _ _ (pure d) _ _ s
  refine ag ?_
  show wpAny _ _ (nj d >>=_) _ _ s
  unfold nj
  rw [if_neg (by rw [hd]; exact aC)]
  refine aa (ag ?_)
  exact aa (a_ (ag ⟨_,rfl,h⟩))
theorem Ab{Q:Value->ai->Prop}(hv:s.heap.get? v=some (xq d))(x:kH s.heap d es ep)(h:Q (.ref s.heap.objs.size) {s with heap:=s.heap.push (gV .none (.bool false) .none .none d 0 es.size ep)}):wpAny (model prog w) A (sT (.ref v)) Q E s:=by
 have ty:s.TypeIs (.ref v) "dict_items":=⟨_,hv,rfl⟩
 obtain⟨o,k1,k2,k3⟩:=x.ex
 refine iW ty PySem.F.slot_dict_items_iter (bh PySem.F.slot_dict_items_iter ty PySem.F.entry_dict_items_iter ?_ (PySem.F.args_dict_items_iter_1 _))
 unfold cP.«dict_items.__iter__»
 refine aa (ag ?_)
 refine aa ?_
 unfold Builtin.Dict_items.dictOf
 refine aa (aU hv rfl (x:= .ref d) rfl (ag ?_))
 refine aa ?_
 unfold Builtin.Dict_items.newIterator
 refine aa (qz k1 k3 ?_)
 refine aa (ui k1 k3 ?_)
 have own:uj "dict_itemiterator"=true:=by decide
 simp only [own,if_true]
 refine a_ (ag ⟨_,rfl,"dict_itemiterator",_,⟨_,ar _ rfl,rfl⟩,o8.lookup, ?_⟩) (by simp only [sizeOk,Builtin.Dict_items.ownedTupleFields,aB,aw,aH,dC,eL]; omega)
 simpa [dI,gV,Builtin.Dict_items.ownedTupleFields]using h
theorem DY{M:Model}{a:Addr}{Q:Option Obj->ai->Prop}(h:Q (s.heap.get? a) s):wpAny M A (oj a) Q E s:=fun Γ p hΓ=>h
theorem qV{I:Addr}{i:Nat}{f0 f1 ok ov:Value}{Q:Option Value->ai->Prop}(hh:A.handled=none)(hI:s.heap.get? I=some (gV f0 f1 ok ov d i es.size ep))(hf0:f0= .none\/ ∃a:Addr,f0=dI a)(x:kH s.heap d es ep)
  (h1: ∀(hi:i < es.size) (h':Heap) (g0 g1 gk gv:Value),(g0= .none\/ ∃a:Addr,g0=dI a)->h'.get? I=some (gV g0 g1 gk gv d (i+1) es.size ep)->h'.get? s.heap.objs.size=some (fK es[i])->(∀b o,b≠I->s.heap.get? b=some o->h'.get? b=some o)->Q (some (.ref s.heap.objs.size)) {s with heap:=h'})
  (h2:es.size<=i-> ∀h',tm I s.heap h'->Q none {s with heap:=h'}):wpAny (model prog w) A (gF (.ref I)) Q E s:=by
 obtain⟨hp,g,dr,tk,os⟩:=s
 have ty:gu ⟨hp,g,dr,tk,os⟩ (.ref I) "dict_itemiterator":=⟨_,hI,rfl⟩
 obtain⟨o,k1,k2,k3⟩:=x.ex
 unfold gF
 refine aa (hV (bM (name:=dP "__next__") ty o8 (bh o8 ty PySem.F.entry_dict_itemiterator_next ?_ (PySem.F.args_dict_itemiterator_next_1 _))))
 refine aa (ag ?_)
 refine aa ?_
 refine aa ?_
 first | refine aa (sZ ty (ag ?_)) | refine aa (wU ty (ag ?_))
 refine aa (wpAny_fieldsOf hI rfl ?_)
 have own:uj "dict_itemiterator"=true:=by decide
 simp only [own,if_true]
 show wpAny _ _ (if(aq d==bf)=true then _ else _) _ _ _
 rw [if_neg (show ¬((aq d==bf)=true)from aC)]
 refine aa (ag ?_)
 refine aa (qz k1 k3 ?_)
 rw [if_neg (by simp)]
 refine aa (ag ?_)
 refine aa (ui k1 k3 ?_)
 rw [if_neg (by simp)]
 refine ag ?_
 by_cases hi:i < es.size
 ·simp only [show ¬((i:Int) < 0)from by omega,if_false,bU,cT hi]
  refine aa ?_
  first | refine aa (sZ ty (ag ?_)) | refine aa (wU ty (ag ?_))
  refine aa (Ar ty ?_)
  show wpAny _ _ (fw (.ref I) 3 (dI ((i:Int)+1)) >>=_) _ _ ⟨hp,g,dr,tk,os⟩
  refine aa (a9 hI (by show 3 < 8; decide) fun a1 e1 s1=> ?_)
  replace s1:aW I hp a1:=s1
  replace e1:a1.get? I=some (gV f0 f1 ok ov d (i+1) es.size ep):=e1
  have ty1:gu ⟨a1,g,dr,tk,os⟩ (.ref I) "dict_itemiterator":=⟨_,e1,rfl⟩
  refine aa (bq ?_)
  refine aa (Ar ty1 ?_)
  refine aa (Ar ty1 ?_)
  show wpAny _ _ (Builtin.Dict_items.pairFromOwner (.ref I) 6 es[i].key es[i].val) _ _ ⟨a1,g,dr,tk,os⟩
  unfold Builtin.Dict_items.pairFromOwner
  refine aa (ku ?_)
  have e2:(a1.push (fK es[i])).get? I=some (gV f0 f1 ok ov d (i+1) es.size ep):=af _ e1
  have z1:a1.objs.size=hp.objs.size:=s1.1
  have hil:I < hp.objs.size:=au hI
  have t2:(a1.push (fK es[i])).get? hp.objs.size=some (fK es[i]):=by rw [<-z1]; exact ar _ rfl
  have q2: ∀b o,b≠I->hp.get? b=some o->(a1.push (fK es[i])).get? b=some o:=fun b o hb e=>af _ (s1.extBut b o hb e)
  show wpAny _ _ (Builtin.Dict_items.ownedTupleIsFree (.ref I) >>=_) _ _ ⟨a1.push (fK es[i]),g,dr,tk,os⟩
  rw [z1]
  generalize a1.push (fK es[i])=a2 at e2 t2 q2
  have free: ∀{Q':Value->ai->Prop},(∀h' g0 g1 gk gv,(g0= .none\/ ∃a:Addr,g0=dI a)->h'.get? I=some (gV g0 g1 gk gv d (i+1) es.size ep)->h'.get? hp.objs.size=some (fK es[i])->(∀b o,b≠I->hp.get? b=some o->h'.get? b=some o)->Q' (.ref hp.objs.size) ⟨h',g,dr,tk,os⟩)-> ∀{E':Value->ai->Prop},
    wpAny (model prog w) A.in1 (do
     let old:= [<-field (.ref I) 6, <-field (.ref I) (6+1)]
     fw (.ref I) 6 es[i].key; fw (.ref I) (6+1) es[i].val
     fw (.ref I) 0 (dI hp.objs.size); fw (.ref I) 1 (.bool false)
     letGo old [.ref hp.objs.size]
     pure (.ref hp.objs.size)) Q' E' ⟨a2,g,dr,tk,os⟩:=fun{Q'} hQ {E'}=>by
   refine aa (aU e2 rfl (x:=ok) rfl ?_)
   refine aa (aU e2 rfl (x:=ov) rfl ?_)
   refine aa (a9 e2 (by show 6 < 8; decide) fun a3 e3 s3=> ?_)
   replace s3:aW I a2 a3:=s3
   replace e3:a3.get? I=some (gV f0 f1 es[i].key ov d (i+1) es.size ep):=e3
   refine aa (a9 e3 (by show 7 < 8; decide) fun a4 e4 s4=> ?_)
   replace s4:aW I a3 a4:=s4
   replace e4:a4.get? I=some (gV f0 f1 es[i].key es[i].val d (i+1) es.size ep):=e4
   refine aa (a9 e4 (by show 0 < 8; decide) fun a5 e5 s5=> ?_)
   replace s5:aW I a4 a5:=s5
   replace e5:a5.get? I=some (gV (dI hp.objs.size) f1 es[i].key es[i].val d (i+1) es.size ep):=e5
   refine aa (a9 e5 (by show 1 < 8; decide) fun a6 e6 s6=> ?_)
   replace s6:aW I a5 a6:=s6
   replace e6:a6.get? I=some (gV (dI hp.objs.size) (.bool false) es[i].key es[i].val d (i+1) es.size ep):=e6
   refine aa (k8 (ag (hQ a6 _ _ _ _ (.inr ⟨_,rfl⟩) e6 ?_ ?_)))
   ·exact s6.extBut _ _ (bH hil) (s5.extBut _ _ (bH hil) (s4.extBut _ _ (bH hil) (s3.extBut _ _ (bH hil) t2)))
   ·exact fun b o hb e=>s6.extBut b o hb (s5.extBut b o hb (s4.extBut b o hb (s3.extBut b o hb (q2 b o hb e))))
  have fin: ∀h' g0 g1 gk gv,(g0= .none\/ ∃a:Addr,g0=dI a)->h'.get? I=some (gV g0 g1 gk gv d (i+1) es.size ep)->h'.get? hp.objs.size=some (fK es[i])->(∀b o,b≠I->hp.get? b=some o->h'.get? b=some o)->Q (some (.ref hp.objs.size)) ⟨h',g,dr,tk,os⟩:=fun h' g0 g1 gk gv c1 c2 c3 c4=>h1 hi h' g0 g1 gk gv c1 c2 c3 c4
  refine aa ?_
  unfold Builtin.Dict_items.ownedTupleIsFree
  refine aa (aU e2 rfl (x:=f0) rfl ?_)
  rcases hf0 with rfl | ⟨a,rfl⟩
  ·refine ag ?_
   rw [if_pos rfl]
   exact free fun h' g0 g1 gk gv c1 c2 c3 c4=>ag ⟨_,rfl,ag (fin h' g0 g1 gk gv c1 c2 c3 c4)⟩
  ·refine aa (DY ?_)
   cases ea:a2.get? a with
   | none=>
    refine cG (fun _=> ?_) fun z=>absurd ?_ z
    ·refine ag ?_
     rw [if_pos rfl]
     exact free fun h' g0 g1 gk gv c1 c2 c3 c4=>ag ⟨_,rfl,ag (fin h' g0 g1 gk gv c1 c2 c3 c4)⟩
    ·show(a2.get? ((a:Int).toNat)).isNone=true
     rw [bU,ea]
     rfl
   | some oa=>
    refine cG (fun z=>absurd (show(a2.get? ((a:Int).toNat)).isNone=true from z) (by rw [bU,ea]; exact aC)) fun _=> ?_
    refine aa (aU e2 rfl (x:=f1) rfl ?_)
    refine cG (fun _=> ?_) fun _=> ?_
    ·refine aa (a9 e2 (by show 1 < 8; decide) fun a3 e3 s3=> ?_)
     replace s3:aW I a2 a3:=s3
     replace e3:a3.get? I=some (gV (dI a) (.bool true) ok ov d (i+1) es.size ep):=e3
     refine ag ?_
     rw [if_neg aC]
     exact ag (ag ⟨_,rfl,ag (fin a3 _ _ _ _ (.inr ⟨a,rfl⟩) e3 (s3.extBut _ _ (bH hil) t2) fun b o hb e=>s3.extBut b o hb (q2 b o hb e))⟩)
    ·refine ag ?_
     rw [if_neg aC]
     exact ag (ag ⟨_,rfl,ag (fin a2 _ _ _ _ (.inr ⟨a,rfl⟩) e2 t2 q2)⟩)
 ·have hi:es.size<=i:=by omega
  simp only [show ¬((i:Int) < 0)from by omega,if_false,bU,Array.getElem?_eq_none hi]
  refine aa ?_
  first | refine aa (sZ ty (ag ?_)) | refine aa (wU ty (ag ?_))
  show wpAny _ _ (fw (.ref I) 2 .none >>=_) _ _ ⟨hp,g,dr,tk,os⟩
  refine aa (cY hI rfl (by show 2 < 8; decide) ?_)
  show wpAny _ _ (oh (.type "StopIteration") [] >>=_) _ _ _
  refine aa ?_
  simp only [oh,newTuple]
  refine aa (a_ ?_ (by size_fits))
  refine aa (m:=eV _ _) (n_ (a:=bf) (by first | rfl | (simp only [eV]; rfl)) ?_)
  refine a_ ?_ (by size_fits)
  simp only [wI]
  refine aa (o6 ?_)
  rw [show A.in1.handled=none from hh]
  refine aa (ag (tq ?_))
  refine aa (dO (T:="StopIteration") (b:=true) ⟨_,ar _ rfl,rfl⟩ oi ?_)
  exact ag (h2 hi _ (((bu ..).extBut.push _).push _))
end
section
variable {prog:av}{w:World}{A:bC}{E:Value->ai->Prop}{s:ai}{d v:Addr}{es:Array dJ}{ep:Nat}
theorem vd{I L:Addr}{res:Value}{R:Result->ai->Prop}{s0:ai}(hh:A.in1.handled=none)(ie:es.size<=sizeLine)(hLI:L≠I)(hId:I≠d)(hLd:L≠d){m0:Nat}:
  ∀(k i:Nat) (h:Heap) (bs:List Addr) (c:Nat),m0<=h.objs.size->(∀b∈bs,m0<=b)->es.size - i=k->i<=es.size->(∃f0 f1 ok ov,(f0= .none\/ ∃a:Addr,f0=dI a)/\h.get? I=some (gV f0 f1 ok ov d i es.size ep))->kH h d es ep->
   h.get? L=some {cls:= .type "list",dict:=none,data:= .seq (bs.map aq).toArray c,slots:= #[]}->bs.length=i->(∀j b,bs[j]? =some b-> ∃hj:j < es.size,h.get? b=some (fK es[j]))->(∀b ob,b≠L->b≠I->s0.heap.get? b=some ob->h.get? b=some ob)->
   (∀(h':Heap) (bs':List Addr) (c':Nat),(∀b∈bs',m0<=b)->h'.get? L=some {cls:= .type "list",dict:=none,data:= .seq (bs'.map aq).toArray c',slots:= #[]}->bs'.length=es.size->(∀j b,bs'[j]? =some b-> ∃hj:j < es.size,h'.get? b=some (fK es[j]))->(∀b ob,b≠L->b≠I->s0.heap.get? b=some ob->h'.get? b=some ob)->R (.ok (.ret res)) {s0 with heap:=h'})->
   f9 (model prog w) A (.builtin "list.extend.loop" ⟨[.ref L, .ref I,res], []⟩) R {s0 with heap:=h}:=by
 intro k
 induction k with
 | zero=>
  intro i h bs c hm1 hm2 hk hi ⟨f0,f1,ok,ov,hf,hI⟩ x hL hb hp hs hR
  have hin:i=es.size:=by omega
  subst hin
  refine cZ PySem.F.entry_extend_loop ?_
  rw [cC cD _]
  show wpAny _ A.in1 (gF (.ref I) >>=_) _ _ _
  refine aa (qV (s:={s0 with heap:=h}) hh hI hf x (fun hi=>absurd hi (df _)) fun _ h' eb=> ?_)
  refine ag (hR h' bs c hm2 (eb _ _ hLI hL) hb (fun j b e=> ?_) fun b ob n1 n2 e=>eb b ob n2 (hs b ob n1 n2 e))
  obtain⟨hj,e2⟩:=hp j b e
  exact⟨hj,eb _ _ (by rintro rfl; rw [hI]at e2; exact absurd (show cz "dict_itemiterator"=cz "tuple" from congrArg Obj.cls (aA e2)) (by decide)) e2⟩
 | succ k ih=>
  intro i h bs c hm1 hm2 hk hi ⟨f0,f1,ok,ov,hf,hI⟩ x hL hb hp hs hR
  refine cZ PySem.F.entry_extend_loop ?_
  rw [cC cD _]
  show wpAny _ A.in1 (gF (.ref I) >>=_) _ _ _
  refine aa (qV (s:={s0 with heap:=h}) hh hI hf x (fun hi h' g0 g1 gk gv c1 c2 c3 c4=> ?_) fun hge=>absurd hge (by omega))
  have hL':=c4 L _ hLI hL
  have hLlt:L < h.objs.size:=au hL
  have hIlt:I < h.objs.size:=au hI
  have sz:(bs.map aq).toArray.size=i:=by rw [aB,ae,hb]
  show wpAny _ A.in1 (updateSeq L (·.push (.ref h.objs.size)) >>=_) _ _ _
  refine aa ?_
  have up: ∀b ob,b≠L->h'.get? b=some ob->(h'.update L (cJ (·.push (.ref h.objs.size)))).get? b=some ob:=fun b ob hb e=>(cS _ _ (fun z:L=b=>hb z.symm)).trans e
  obtain⟨cc,hc2⟩: ∃cc,(h'.update L (cJ (·.push (.ref h.objs.size)))).get? L=some {cls:= .type "list",dict:=none,data:= .seq ((bs ++ [h.objs.size]).map aq).toArray cc,slots:= #[]}:=by
   have e:=ff (c:="list") hL' (·.push (.ref h.objs.size))
   have ep:((bs ++ [h.objs.size]).map aq).toArray=(bs.map aq).toArray.push (.ref h.objs.size):=by
    apply lU.mp
    rw [iV,bD]
    rfl
   rw [ep]
   exact⟨_,e⟩
  refine IK hL' rfl (ag ⟨dg cD _,ih (i+1) _ (bs ++ [h.objs.size]) cc (by show m0<=(h'.update L _).objs.size; rw [Heap.size_update]; exact bj hm1 (iN (au c3))) (fun b hb'=>(bI.mp hb').elim (hm2 b) fun z=>by rw [aK.mp z]; exact hm1) (by omega) (by omega) ⟨g0,g1,gk,gv,c1,up _ _ hLI.symm c2⟩ (x.at fun o e=>up _ _ hLd.symm (c4 _ _ hId.symm e)) hc2 (by rw [aw,hb]; rfl) (fun j b e=> ?_) (fun b ob n1 n2 e=>up _ _ n1 (c4 _ _ n2 (hs b ob n1 n2 e))) hR⟩) (by rw [sz]; omega) (by show((bs.map aq).toArray.push _).size<=sizeLine+1; rw [Array.size_push,sz]; omega)
  ·rw [C0]at e
   split at e
   ·obtain⟨hj,e2⟩:=hp j b e
    refine⟨hj,up _ _ (by rintro rfl; rw [hL]at e2; exact absurd (show cz "list"=cz "tuple" from congrArg Obj.cls (aA e2)) (by decide)) (c4 _ _ (by rintro rfl; rw [hI]at e2; exact absurd (show cz "dict_itemiterator"=cz "tuple" from congrArg Obj.cls (aA e2)) (by decide)) e2)⟩
   ·rename_i hn
    have ej:j - bs.length=0:=by
     rcases kx (j - bs.length)with z | z
     ·exact z
     ·rw [aI (by simp; omega)]at e; cases e
    rw [ej]at e
    have hj:j=i:=by omega
    subst hj
    cases e
    exact⟨hi,up _ _ (bH hLlt) c3⟩
theorem tQ{Q:List Value->ai->Prop}(hh:A.handled=none)(hv:s.heap.get? v=some (xq d))(x:kH s.heap d es ep)(ie:es.size<=sizeLine)
  (hQ: ∀(h':Heap) (bs:List Addr),s.heap.objs.size < h'.objs.size->(∀b ob,s.heap.get? b=some ob->h'.get? b=some ob)->bs.length=es.size->(∀b∈bs,s.heap.objs.size<=b)->(∀j b,bs[j]? =some b-> ∃hj:j < es.size,h'.get? b=some (fK es[j]))->Q (bs.map aq) {s with heap:=h'}):wpAny (model prog w) A (collect (.ref v)) Q E s:=by
 have hlt:v < s.heap.objs.size:=au hv
 have hltd:d < s.heap.objs.size:=let⟨o,k1,_⟩:=x.ex; au k1
 unfold collect
 refine aa (wH (cZ u7 ?_))
 rw [cC u9 _]
 show wpAny _ A.in1 (u4 [] >>=fun l=>again (.builtin "list.__iadd__" ⟨[l, .ref v], []⟩)) _ _ s
 refine aa (a_ ?_)
 refine ag ⟨dg fW _,cZ y4 ?_⟩
 rw [cC fW _]
 have x1:kH (s.heap.push {cls:= .type "list",data:= .seq ([]:List Value).toArray}) d es ep:=x.at fun o e=>af _ e
 have hS₁:(s.heap.push {cls:= .type "list",data:= .seq ([]:List Value).toArray}).get? s.heap.objs.size=some {cls:= .type "list",data:= .seq ([]:List Value).toArray}:=ar _ rfl
 have h1:fG (.ref s.heap.objs.size) (.ref v)=false:=by simp [fG,bH hlt]
 have ty:gu {s with heap:=s.heap.push {cls:= .type "list",data:= .seq ([]:List Value).toArray}} (.ref v) "dict_items":=⟨_,af _ hv,rfl⟩
 show wpAny _ A.in1 (eJ (.ref s.heap.objs.size) (.ref v) (.ref s.heap.objs.size)) _ _ _
 unfold eJ
 refine aa (fj ty ?_)
 rw [if_neg (by rw [h1]; decide)]
 refine aa (Ab (s:={s with heap:=s.heap.push {cls:= .type "list",data:= .seq ([]:List Value).toArray}}) (af _ hv) x1 ?_)
 refine aa (bq ?_)
 unfold u_
 have x2:kH ((s.heap.push {cls:= .type "list",data:= .seq ([]:List Value).toArray}).push (gV .none (.bool false) .none .none d 0 es.size ep)) d es ep:=x1.at fun o e=>af _ e
 have ty2:gu {s with heap:=(s.heap.push {cls:= .type "list",data:= .seq ([]:List Value).toArray}).push (gV .none (.bool false) .none .none d 0 es.size ep)} (.ref v) "dict_items":=⟨_,af _ (af _ hv),rfl⟩
 refine aa (gq ty2 PySem.F.slot_dict_items_len.lookup ?_)
 generalize hid:("dict_items.__len__":String)=id0
 dsimp only
 rw [show splitId id0=some ("dict_items","__len__")from by subst hid; decide +kernel]
 subst hid
 dsimp only
 refine aa (dO (b:=true) ty2 (by rw [og]; kernel_rfl) ?_)
 rw [if_neg (show ¬(!true)=true by decide)]
 refine cG (fun _=> ?_) fun hs=>(hs (by decide +kernel)).elim
 refine aa (fj ty2 (ag ?_))
 have szl:(s.heap.push {cls:= .type "list",data:= .seq ([]:List Value).toArray}).objs.size=s.heap.objs.size+1:=bX ..
 have hne:s.heap.objs.size≠(s.heap.push {cls:= .type "list",data:= .seq ([]:List Value).toArray}).objs.size:=by rw [szl]; exact aF (fU _)
 have hId:(s.heap.push {cls:= .type "list",data:= .seq ([]:List Value).toArray}).objs.size≠d:=by rw [szl]; exact bH (cB hltd)
 have hL2:((s.heap.push {cls:= .type "list",data:= .seq ([]:List Value).toArray}).push (gV .none (.bool false) .none .none d 0 es.size ep)).get? s.heap.objs.size=some {cls:= .type "list",data:= .seq ([]:List Value).toArray}:=af _ hS₁
 have hI2:((s.heap.push {cls:= .type "list",data:= .seq ([]:List Value).toArray}).push (gV .none (.bool false) .none .none d 0 es.size ep)).get? (s.heap.push {cls:= .type "list",data:= .seq ([]:List Value).toArray}).objs.size=some (gV .none (.bool false) .none .none d 0 es.size ep):=ar _ rfl
 have hk2: ∀b ob,s.heap.get? b=some ob->((s.heap.push {cls:= .type "list",data:= .seq ([]:List Value).toArray}).push (gV .none (.bool false) .none .none d 0 es.size ep)).get? b=some ob:=fun b ob e=>af _ (af _ e)
 generalize hI0:(s.heap.push {cls:= .type "list",data:= .seq ([]:List Value).toArray}).objs.size=I0 at hne hId hI2 szl ⊢
 generalize hH0:(s.heap.push {cls:= .type "list",data:= .seq ([]:List Value).toArray}).push (gV .none (.bool false) .none .none d 0 es.size ep)=H0 at hL2 hI2 hk2 x2 ⊢
 have fin: ∀(h':Heap) (c:Nat),aW s.heap.objs.size H0 h'->h'.get? s.heap.objs.size=some {cls:= .type "list",dict:=none,data:= .seq #[] c,slots:= #[]}->
   f9 (model prog w) A (.builtin "list.extend.loop" ⟨[.ref s.heap.objs.size, .ref I0, .ref s.heap.objs.size], []⟩) (fun r s'=>match r with
       | sV (Flow.ret v)=>
        wpAny (model prog w) A
         (match v with
         | aq a=>do
          let __do_lift<-load a
          match __do_lift.data with
           | wF xs epoch=>pure xs.toList
           | x=>iE "internal:collect"
         | x=>iE "internal:collect")
         Q E s'
       | sV a=>False
       | Except.error e=>E e s') {s with heap:=h'}:=fun h' c sb hl=>by
  refine vd (s0:=s) (L:=s.heap.objs.size) (by simpa using hh) ie hne hId (bH hltd) (m0:=s.heap.objs.size) es.size 0 h' [] c (iN (au hl)) (fun b hb=>by cases hb) (by omega) (bW _) ⟨_,_,_,_, .inl rfl,(sb.2 I0 hne.symm).trans hI2⟩ (x2.at fun o e=>(sb.2 d (aF hltd)).trans e) hl rfl (fun j b e=>by cases e) (fun b ob h1 h2 e=>(sb.2 b h1).trans (hk2 b ob e)) (fun h2 bs c' q0 q1 q2 q3 q4=> ?_)
  dsimp only
  refine aa (wz q1 ?_)
  refine ag ?_
  show Q (bs.map aq) _
  refine hQ h2 bs (au q1) (fun b ob e=> ?_) q2 q0 q3
  have hb:=au e
  exact q4 b ob (aF hb) (by rw [szl]; exact aF (cB hb)) e
 refine cG (fun _=> ?_) fun _=> ?_
 ·refine aa (c7 ?_)
  unfold An
  refine aa (aa (hW hL2 rfl ?_ (by show 0<=_; omega) (by show 1<=_; rw [eL]; omega)))
  have hL3:=ff hL2 fun x=>x.push bf
  refine hW hL3 rfl ?_ (by show 1<=_; rw [eL]; omega) (by show 0<=_; omega)
  have hL4:=ff hL3 fun x=>x.pop
  exact ag ⟨dg cD _,fin _ _ ((bu ..).trans (bu ..)) hL4⟩
 ·exact ag ⟨dg cD _,fin _ _ (bN _ _) hL2⟩
end
section
variable {prog:av}{w:World}{A:bC}{E:Value->ai->Prop}{s:ai}{d v:Addr}{es:Array dJ}{ep:Nat}
theorem yn{pr:List (Value×gr)}{m:Nat}{Q:Value->ai->Prop}(hh:A.handled=none)(hu:A.units+8 < cLine)(hd:(d==iA)=false)(x:kH s.heap d es ep)(ie:es.size<=sizeLine)(he:es.toList.map (·.key)=pr.map (·.1))(y: ∀q∈pr, ∃b,q.1=aq b/\T2 prog w s.heap q.2 b)(hm: ∀q∈pr,q.2.length=m)(m0:0 < m)(nk:(pr.map (·.2)).Nodup)
  (h: ∀(h':Heap) (tk D:Nat) (out:List Value) (c:Nat),s.heap.objs.size<=D->mf ky pr out->h'.get? D=some (cg "list" out.toArray c)->(∀b ob,s.heap.get? b=some ob->h'.get? b=some ob)->Q (.ref D) {s with heap:=h',toks:=tk}):
  wpAny (model prog w) A (call (.builtin "sorted") [.ref d]) Q E s:=by
 refine kS C1 Ao Ap (Aq _) ?_
 unfold cP.«sorted»
 refine aa (m:=checkCount "sorted" 1 1 _) (ag ?_)
 refine aa (yh (by simpa using hh) hd x ie fun h1 tk hsz hk=> ?_)
 rw [he]
 have lp:pr.length=es.size:=by rw [<-ak, <-ae (f:=fun e:dJ=>e.key),he,ae]
 refine aa (o7 ?_ (by rw [ae,lp]; exact ie))
 have hoL:(h1.push (cg "list" (pr.map (·.1)).toArray 0)).get? h1.objs.size=some (cg "list" (pr.map (·.1)).toArray 0):=ar _ rfl
 have hk2: ∀b ob,s.heap.get? b=some ob->(h1.push (cg "list" (pr.map (·.1)).toArray 0)).get? b=some ob:=fun b ob e=>af _ (hk b ob e)
 have ltb: ∀b ob,s.heap.get? b=some ob->b≠h1.objs.size:=fun b ob e=>aF (Nat.lt_trans (au e) hsz)
 show wpAny _ _ _ _ _ {s with heap:=h1.push (cg "list" (pr.map (·.1)).toArray 0),toks:=tk}
 refine aa (bq (bh wK ⟨_,hoL,rfl⟩ uh ?body (wL _)))
 case body=>
  refine Gz (s:={s with heap:=h1.push (cg "list" (pr.map (·.1)).toArray 0),toks:=tk}) (pr:=pr) (m:=m) (by simp only [gX]; omega) hoL (by rw [lp]; exact ie) (fun q hq=> ?_) hm m0 nk fun h' out c hp2 hg2 hk3=> ?_
  ·obtain⟨b,e,t⟩:=y q hq
   exact⟨b,e,t.keep fun c o _ z=>hk2 c o z⟩
  ·exact⟨_,rfl,ag ⟨_,rfl,h h' tk h1.objs.size out c (iN hsz) hp2 hg2 fun b ob e=>hk3 b ob (ltb b ob e) (hk2 b ob e)⟩⟩
theorem Ho{h:Heap}{a b:Addr}{rs:gr}{n:Int}{t:Tok}{e:dJ}(ha:h.get? a=some (fK e))(hk:e.key= .ref b)(hv:e.val= .int n t)(x:T2 prog w h rs b):T3 prog w h (rs,n) a:=by
 refine⟨_,0,b,t,ha,rfl, ?_,x⟩
 show wF #[e.key,e.val] 0=_
 rw [hk,hv]
theorem vU{ks:List (gr×Int)}{Q:Value->ai->Prop}(hh:A.handled=none)(hu:A.units+8 < cLine)(hv:s.heap.get? v=some (xq d))(x:kH s.heap d es ep)(ie:es.size<=sizeLine)(hl:ks.length=es.size)(y: ∀j (hj:j < es.size), ∃b t,es[j].key=aq b/\es[j].val= .int (ks[j]'(by omega)).2 t/\T2 prog w s.heap (ks[j]'(by omega)).1 b)(nk:ks.Nodup)
  (h: ∀(h':Heap) (D:Nat) (bs:List Addr) (out:List Value) (c:Nat),s.heap.objs.size<=D->bs.length=ks.length->(∀b∈bs,s.heap.objs.size<=b)->(∀j b,bs[j]? =some b-> ∃hj:j < es.size,h'.get? b=some (fK es[j]))->mf eD ((bs.map aq).zip ks) out->h'.get? D=some (cg "list" out.toArray c)->(∀b ob,s.heap.get? b=some ob->h'.get? b=some ob)->Q (.ref D) {s with heap:=h'}):
  wpAny (model prog w) A (call (.builtin "sorted") [.ref v]) Q E s:=by
 refine kS C1 Ao Ap (Aq _) ?_
 unfold cP.«sorted»
 refine aa (m:=checkCount "sorted" 1 1 _) (ag ?_)
 refine aa (tQ (by simpa using hh) hv x ie fun h1 bs hsz hk hbl hnew hb=> ?_)
 refine aa (o7 ?_ (by rw [ae,hbl]; exact ie))
 have hoL:(h1.push (cg "list" (bs.map aq).toArray 0)).get? h1.objs.size=some (cg "list" (bs.map aq).toArray 0):=ar _ rfl
 have hk2: ∀b ob,h1.get? b=some ob->(h1.push (cg "list" (bs.map aq).toArray 0)).get? b=some ob:=fun b ob e=>af _ e
 have ltb: ∀b ob,h1.get? b=some ob->b≠h1.objs.size:=fun b ob e=>aF (au e)
 have e1:((bs.map aq).zip ks).map (·.1)=bs.map aq:=Ic (by rw [ae]; omega)
 have e2:((bs.map aq).zip ks).map (·.2)=ks:=jh (by rw [ae]; omega)
 show wpAny _ _ _ _ _ {s with heap:=h1.push (cg "list" (bs.map aq).toArray 0)}
 refine aa (bq (bh wK ⟨_,hoL,rfl⟩ uh ?body (wL _)))
 case body=>
  refine AV (s:={s with heap:=h1.push (cg "list" (bs.map aq).toArray 0)}) (pr:=(bs.map aq).zip ks) (by simp only [gX]; omega) (by rw [e1]; exact hoL) (by rw [bK,ae]; omega) (fun q hq=> ?_) (by rw [e2]; exact nk) fun h' out c hp2 hg2 hk3=> ?_
  ·obtain⟨j,hj,rfl⟩:=aN.mp hq
   rw [bK,ae]at hj
   have hj1:j < bs.length:=by omega
   have hj2:j < es.size:=by omega
   obtain⟨_,hp⟩:=hb j bs[j] (ah hj1)
   obtain⟨b,t,y1,y2,y3⟩:=y j hj2
   rw [eP]
   refine⟨bs[j],by rw [aV], ?_⟩
   exact Ho (hk2 _ _ hp) y1 y2 (y3.keep fun c o _ z=>hk2 _ _ (hk c o z))
  ·refine⟨_,rfl,ag ⟨_,rfl,h h' h1.objs.size bs out c (iN hsz) (by omega) hnew (fun j b e=> ?_) hp2 hg2 fun b ob e=>hk3 b ob (ltb b ob (hk b ob e)) (hk2 b ob (hk b ob e))⟩⟩
   obtain⟨hj,q⟩:=hb j b e
   exact⟨hj,hk3 b _ (ltb b _ q) (hk2 b _ q)⟩
end
section
variable {prog:av}{w:World}{K:Type} [DecidableEq K]{knd:HeapKind prog w K}{A:bC}{E:Value->ai->Prop}{s:ai}{env:Env}
theorem EO{k v:Expr}{pos:Pos}{Q:Value->ai->Prop}(hu:knd.room A)
  (h:wpAny (model prog w) A (eval k env) (fun kv s1=>wpAny (model prog w) A (eval v env) (fun vv s2=> ∃a r,kv= .ref a/\knd.is s2.heap r a/\s2.heap.DictOfH knd s.heap.objs.size []/\
   ∀h',h'.DictOfH knd s.heap.objs.size [(r,a,vv)]->aW s.heap.objs.size s2.heap h'->Q (.ref s.heap.objs.size) {s2 with heap:=h',toks:=s2.toks+knd.draws r}) E s1) E {s with heap:=s.heap.push {cls:= .type "dict",data:= .dict #[]}}):
  wpAny (model prog w) A (eval (.Dict [some k] [v] pos) env) Q E s:=by
 rw [arm_eval_Dict,zip_pairTrees [some k] [v] env pos rfl rfl,dictDisplay_pairs _ (by simp [pairTrees]) (by simp [pairTrees])]
 refine aa (o5 (aa ?_))
 unfold subDict
 refine aa (wpAny_alloc ?_)
 refine aa (bq ?_)
 rw [if_pos (by simp [pairTrees])]
 refine aa (pairTrees_cons_walk (cF h (fun kv s1 h1=>cF h1 (fun vv s2 h2=>pairTrees_nil_walk ?_) fun _ _ e=>e) fun _ _ e=>e))
 obtain⟨a,r,rfl,hk,hm,hQ⟩:=h2
 refine bq ?_
 rw [cj]
 refine aa (aa (aa (wpAny_dictSet_heap (hsz:=by show 0<=_; omega) hu hk hm fun h' hm' hs'=>ag ?_)))
 dsimp only
 rw [dq]
 refine ag (ag (ag (ag ?_)))
 exact hQ h' hm' hs'
end
end Z
namespace Z
open PySem PySem.Spec PyProof.Rows L2
def zf(r:List Int):D:= .tup (r.map .int)
def jQ(rs:gr):D:= .tup (rs.map zf)
abbrev l8:=List (gr×Int)
def uU(kv:l8):D:= .dct (kv.map fun x=>jQ x.1) (kv.map (·.2))
theorem uL: ∀r:List Int,iK (r.map .int)=r.map hashInt
 | []=>rfl
 | x::r=>by rw [aY,aY, <-uL r]; rfl
theorem Dg(P:av)(w:World)(r:List Int):oR (zf r)=(ke (fJ P w)).hash r:=by
 show wG (fc (iK (r.map .int)))=_
 rw [uL]
 rfl
theorem uG(P:av)(w:World): ∀rs:gr,iK (rs.map zf)=rs.map (ke (fJ P w)).hash
 | []=>rfl
 | x::r=>by
  rw [aY,aY, <-uG P w r, <-Dg P w x]
  rfl
theorem wt(P:av)(w:World)(rs:gr):oR (jQ rs)=uR P w rs:=by
 show wG (fc (iK (rs.map zf)))=_
 rw [uG P w]
 rfl
section
variable {X:Cx}{pins:List (Addr×Obj)}{σ:St}{H:Hp}{s:ai}{M:MP}
theorem yq: ∀{r:List Int} {us:List Value},Vals (r.map V.int) us->kr (fJ X.prog X.w) r us
 | [],_,h=>by rw [qp]at h; cases h; exact .nil
 | x::r,_,h=>by
  rw [aY]at h
  cases h with
  | cons a t=>
   obtain⟨tk,rfl⟩:=(show ∃t,_=fQ x t from a)
   exact .cons (by show Value.isInt x (.int x tk)=true; simp [Value.isInt]) (yq t)
theorem KI(I:Inv X pins σ H s){r:List Int}{v:V}{u:Value}(h:Dn X.K M H (zf r) v)(rv:RelV v u): ∃b,u= .ref b/\T1 X.prog X.w s.heap r b:=by
 obtain⟨a,xs,rfl,sq,dn⟩:=h
 cases (show u=aq a from rv)
 obtain⟨its,rr,⟨o,e1,e2,m,e3⟩,_⟩:=I.tuple sq
 rw [cE.ints dn]at rr
 exact⟨a,rfl,o,its.toArray,m,e1,e2,e3,by simpa using yq rr⟩
theorem DA(I:Inv X pins σ H s): ∀{rs:gr} {vs:List V} {us:List Value},cE X.K M H (rs.map zf) vs->Vals vs us->qe X.prog X.w s.heap rs us
 | [],vs,us,h,r=>by cases (show vs= []from h); cases r; exact .nil
 | x::rs,vs,us,h,r=>by
  obtain⟨v,t,rfl,h1,h2⟩:=h
  cases r with
  | cons r1 r2=>
   obtain⟨b,rfl,t1⟩:=KI I h1 r1
   exact .cons t1 (DA I h2 r2)
theorem qb(I:Inv X pins σ H s){rs:gr}{v:V}{u:Value}(h:Dn X.K M H (jQ rs) v)(rv:RelV v u): ∃b,u= .ref b/\v= .ref b/\T2 X.prog X.w s.heap rs b:=by
 obtain⟨a,xs,rfl,sq,dn⟩:=h
 cases (show u=aq a from rv)
 obtain⟨its,rr,⟨o,e1,e2,m,e3⟩,_⟩:=I.tuple sq
 exact⟨a,rfl,rfl,o,its.toArray,m,e1,e2,e3,by simpa using DA I dn rr⟩
theorem qN: ∀{kv:l8} {bs:List Addr} {es:List dJ},bs.length=kv.length->mB (oK (kv.map fun x=>jQ x.1) bs (kv.map (·.2))) es-> ∃xs:List (gr×Addr×Value),es=xs.map (wy (nu X.prog X.w))/\xs.length=kv.length/\ ∀j (hj:j < kv.length) (hx:j < xs.length) (hb:j < bs.length), ∃t,xs[j]=(kv[j].1,bs[j], .int kv[j].2 t)
 | [],bs,es,hb,h=>by
  cases es with
  | nil=>exact⟨[],rfl,rfl,fun j hj=>absurd hj (by simp)⟩
  | cons e es=>cases bs <;> exact h.elim
 | x::kv, [],es,hb,h=>by simp at hb
 | x::kv,b::bs,es,hb,h=>by
  cases es with
  | nil=>exact h.elim
  | cons e es=>
   obtain⟨⟨t,e1⟩,h2⟩:=h
   obtain⟨xs,a1,a2,a3⟩:=qN (kv:=kv) (bs:=bs) (es:=es) (by simpa using hb) h2
   refine⟨(x.1,b, .int x.2 t)::xs, ?_,by rw [aH,a2]; rfl,fun j hj hx hbj=> ?_⟩
   ·rw [aY,a1,e1]
    show(⟨oR (jQ x.1), .ref b, .int x.2 t⟩:dJ)::_=_
    rw [wt X.prog X.w]
    rfl
   ·cases j with
    | zero=>exact⟨t,rfl⟩
    | succ j=>exact a3 j (by simpa using hj) (by simpa using hx) (by simpa using hbj)
theorem cE.refs{ks:List D}{bs:List Addr}{K:Frag}(h:cE K M H ks (bs.map V.ref)){j:Nat}{k:D}{b:Addr}(h1:ks[j]? =some k)(h2:bs[j]? =some b):Dn K M H k (.ref b):=by
 obtain⟨v,e,d⟩:=h.get h1
 rw [aj,h2]at e
 cases e
 exact d
structure yC(X:Cx)(s:ai)(kv:l8)(a:Addr)(xs:List (gr×Addr×Value)):Prop where
 no:(a==iA)=false
 d:s.heap.DictOfH (nu X.prog X.w) a xs
 len:xs.length=kv.length
 it: ∀j (hj:j < kv.length) (hx:j < xs.length), ∃b t,xs[j]=(kv[j].1,b, .int kv[j].2 t)
theorem Ii(I:Inv X pins σ H s){kv:l8}{a:Addr}{bs:List Addr}(nd:(kv.map (·.1)).Nodup)(h:H a=some (jV a (oK (kv.map fun x=>jQ x.1) bs (kv.map (·.2)))))(hb:bs.length=kv.length)(dn:cE X.K M H (kv.map fun x=>jQ x.1) (bs.map V.ref)): ∃xs,yC X s kv a xs:=by
 obtain⟨⟨no,o,es,ep,h1,h2,h3,h4⟩,_⟩:=(show fI X.prog X.w H s.heap a (jV a _)from I.dW a _ h)
 obtain⟨xs,a1,a2,a3⟩:=qN (X:=X) hb h4
 have ks:xs.map (·.1)=kv.map (·.1):=by
  apply List.ext_getElem (by rw [ae,ae,a2])
  intro j hj1 hj2
  rw [ae]at hj1 hj2
  obtain⟨t,e⟩:=a3 j hj2 hj1 (by omega)
  rw [aV,aV,e]
 refine⟨xs,no,⟨o,es,ep,h1,h2,h3,a1,fun x hx=> ?_,by rw [ks]; exact nd⟩,a2,fun j hj hx=> ?_⟩
 ·obtain⟨j,hj,rfl⟩:=aN.mp hx
  have hj2:j < kv.length:=by omega
  obtain⟨t,e⟩:=a3 j hj2 hj (by omega)
  rw [e]
  have d:=dn.refs (j:=j) (k:=jQ kv[j].1) (b:=bs[j]'(by omega)) (by rw [aj,ah hj2]; rfl) (ah _)
  obtain⟨b,e2,_,t2⟩:=qb I d (u:= .ref (bs[j]'(by omega))) rfl
  cases e2
  exact t2
 ·obtain⟨t,e⟩:=a3 j hj hx (by omega)
  exact⟨_,t,e⟩
theorem yC.look{kv:l8}{a:Addr}{xs:List (gr×Addr×Value)}(x:yC X s kv a xs){k:gr}{n:Int}(h:(k,n)∈kv): ∃b t,atKey xs k=some (b, .int n t):=by
 obtain⟨j,hj,e⟩:=aN.mp h
 have hl:=x.len
 obtain⟨b,t,e2⟩:=x.it j hj (by omega)
 obtain⟨o,es,ep,_,_,_,_,_,nd⟩:=x.d
 refine⟨b,t,atKey_of_get nd (i:=j) ?_⟩
 rw [ah (by omega),e2,e]
theorem yC.miss{kv:l8}{a:Addr}{xs:List (gr×Addr×Value)}(x:yC X s kv a xs){k:gr}(h:k∉kv.map (·.1)):atKey xs k=none:=by
 refine atKey_none_of_get fun j p e=>h ?_
 obtain⟨hj,e⟩:=aD.mp e
 have hl:=x.len
 obtain⟨b,t,e2⟩:=x.it j (by omega) hj
 rw [e]at e2
 cases e2
 exact aQ.mpr ⟨_,aR (by omega:j < kv.length),rfl⟩
theorem yC.has{kv:l8}{a:Addr}{xs:List (gr×Addr×Value)}(x:yC X s kv a xs)(k:gr):(atKey xs k).isSome=decide (k∈kv.map (·.1)):=by
 by_cases h:k∈kv.map (·.1)
 ·obtain⟨⟨k',n⟩,hm,rfl⟩:=aQ.mp h
  obtain⟨b,t,e⟩:=x.look hm
  rw [e,decide_eq_true h]
  rfl
 ·rw [x.miss h,decide_eq_false h]
  rfl
end
section
variable {X:Cx}{ρ:eZ}{a b e:Expr}{pos p:Pos}{kv:l8}{k:gr}{n:Int}
def Lb(K:Frag)(kv:l8):V->Hp->Prop:=fun x H=> ∃M,Dn K M H (uU kv) x
theorem Lb.at{pins:List (Addr×Obj)}{σ:St}{H:Hp}{s:ai}{x:V}{u:Value}(nd:(kv.map (·.1)).Nodup)(I:Inv X pins σ H s)(h:Lb X.K kv x H)(r:RelV x u): ∃a xs,u= .ref a/\yC X s kv a xs:=by
 obtain⟨M,a,bs,rfl,h1,h2,h3,h4⟩:=h
 cases (show u=aq a from r)
 rw [ae]at h2
 obtain⟨xs,q⟩:=Ii I nd h1 h2 h4
 exact⟨a,xs,rfl,q⟩
theorem Ka(hu:X.A.units+8 < cLine)(nd:(kv.map (·.1)).Nodup)(hm:(k,n)∈kv):Lf X (fun x y H Q=>Lb X.K kv x H/\(∃M,Dn X.K M H (jQ k) y)/\Q (.int n) H):=by
 intro value slice pins s σ H x y v u Q I rx ry ⟨h1,⟨M,h2⟩,q⟩ hs
 obtain⟨a,xs,rfl,dc⟩:=h1.at nd I rx
 obtain⟨b,rfl,_,t2⟩:=qb I h2 ry
 obtain⟨c,t,e⟩:=dc.look hm
 exact Ak (x:= .int n t) dc.d.typeIs slot_dict_getitem.lookup (wpAny_getItem_heap (knd:=nu X.prog X.w) (Q:=fun r s'=>r= .int n t/\EP X pins σ Q r s') (by show X.A.in1.units+2 < cLine; rw [gX]; omega) t2 dc.d e ⟨rfl, .int n,H,I.tok _,⟨t,rfl⟩,q⟩) hs
theorem az.dget(hu:X.A.units+8 < cLine)(nd:(kv.map (·.1)).Nodup)(hm:(k,n)∈kv)(ha:az X ρ a (uU kv))(hb:az X ρ b (jQ k))(hs:oV b:=by intro _ _; rfl):az X ρ (.Subscript a b pos) (.int n):=
 fun M0 H0 γ α σ H Q R kk=>(EA (Ka hu nd hm) g8 g8 hs).to (ha M0 H0 γ α σ H _ R fun v H1 s1 d1=>hb M0 H0 γ α σ H1 _ (R.next s1) fun u H2 s2 d2=>⟨⟨_,d1.same s2⟩,⟨_,d2⟩,kk _ H2 (s1.trans s2) rfl⟩)
theorem zR(hu:X.A.units+8 < cLine)(nd:(kv.map (·.1)).Nodup):ng X (cH .NotIn) (fun x y H Q=>(∃M,Dn X.K M H (jQ k) x)/\Lb X.K kv y H/\Q (.bl (!decide (k∈kv.map (·.1)))) H):=by
 intro pins s σ H x y v u Q I rx ry ⟨⟨M,h1⟩,h2,q⟩
 obtain⟨a,xs,rfl,dc⟩:=h2.at nd I ry
 obtain⟨b,rfl,_,t2⟩:=qb I h1 rx
 refine wpAny_notIn_heap (knd:=nu X.prog X.w) (by show X.A.in1.units+2 < cLine; rw [gX]; omega) t2 dc.no dc.d ?_
 rw [dc.has]
 exact⟨.bl _,H,I.tok _,rfl,q⟩
theorem c8.notInDc(hu:X.A.units+8 < cLine)(nd:(kv.map (·.1)).Nodup)(ha:az X ρ a (jQ k))(hb:az X ρ b (uU kv))(hm:fE .NotIn b=false:=by rfl):c8 X ρ (.Compare a [.NotIn] [b] pos) (!decide (k∈kv.map (·.1))):=
 fun M0 H0 γ α σ H Q R kk=>(AH (zR hu nd) g8 g8 hm).to (ha M0 H0 γ α σ H _ R fun v H1 s1 d1=>hb M0 H0 γ α σ H1 _ (R.next s1) fun u H2 s2 d2=>⟨⟨_,d1.same s2⟩,⟨_,d2⟩,_,rfl,kk H2 (s1.trans s2)⟩)
end
section
variable {α:Type}{lt:α->α->Bool}
def Ci(lt:α->α->Bool)(x:α):List α->List α
 | []=> [x]
 | y::l=>if lt x y then x::y::l else y::Ci lt x l
def fH(lt:α->α->Bool)(l:List α):List α:=l.foldr (Ci lt) []
theorem pK(x:α): ∀l:List α,(Ci lt x l).Perm (x::l)
 | []=>cR _
 | y::l=>by
  unfold Ci
  split
  ·exact cR _
  ·exact((pK x l).cons y).trans (List.Perm.swap _ _ _)
theorem fZ: ∀l:List α,(fH lt l).Perm l
 | []=>cR _
 | x::l=>(pK x _).trans ((fZ l).cons x)
theorem As(o:nB lt)(x:α): ∀l:List α,x∉l->l.Pairwise (fun a b=>lt a b=true)->(Ci lt x l).Pairwise (fun a b=>lt a b=true)
 | [],_,_=>y7 _ _
 | y::l,hx,h=>by
  have h':=b8.mp h
  unfold Ci
  split
  ·rename_i e
   refine b8.mpr ⟨fun z hz=> ?_,h⟩
   rcases aO.mp hz with rfl | hz
   ·exact e
   ·exact o.tr _ _ _ e (h'.1 z hz)
  ·rename_i e
   have e:lt x y=false:=by simpa using e
   refine b8.mpr ⟨fun z hz=> ?_,As o x l (fun z=>hx (.tail _ z)) h'.2⟩
   rcases aO.mp ((pK x l).mem_iff.mp hz)with rfl | hz
   ·exact o.tot _ _ (fun q=>hx (q▸ .head _)) e
   ·exact h'.1 z hz
theorem qL(o:nB lt): ∀l:List α,l.Nodup->(fH lt l).Pairwise (fun a b=>lt a b=true)
 | [],_=>fk
 | x::l,h=>As o x _ (fun z=>(d_.mp h).1 ((fZ l).mem_iff.mp z)) (qL o l (d_.mp h).2)
theorem xH(o:nB lt): ∀{a b:List α},a.Pairwise (fun a b=>lt a b=true)->b.Pairwise (fun a b=>lt a b=true)->a.Perm b->a=b
 | [],b,_,_,h=>(List.perm_nil.mp h.symm).symm
 | x::a, [],_,_,h=>by cases List.perm_nil.mp h
 | x::a,y::b,ha,hb,h=>by
  have ha':=b8.mp ha
  have hb':=b8.mp hb
  have e:x=y:=by
   rcases aO.mp (h.mem_iff.mp (.head _))with e | e
   ·exact e
   ·rcases aO.mp (h.symm.mem_iff.mp (.head _))with q | q
    ·exact q.symm
    ·have h1:=hb'.1 x e
     have h2:=ha'.1 y q
     rw [o.EH _ _ h1]at h2
     cases h2
  subst e
  rw [xH o ha'.2 hb'.2 h.cons_inv]
theorem kN(o:nB lt){a l:List α}(ha:a.Pairwise (fun a b=>lt a b=true))(h:a.Perm l)(nd:l.Nodup):a=fH lt l:=xH o ha (qL o l nd) (h.trans (fZ l).symm)
end
section
variable {X:Cx}{pins:List (Addr×Obj)}{σ:St}{H H':Hp}{s:ai}{h':Heap}
theorem EK{t':Nat}(I:Inv X pins σ H s)(k: ∀b u,s.heap.get? b=some u->h'.get? b=some u)(old: ∀b,b < s.heap.objs.size->H' b=H b)(new: ∀b u,s.heap.objs.size<=b->H' b=some u->fI X.prog X.w H' h' b u):Inv X pins σ H' {s with heap:=h',toks:=t'}:=by
 have up: ∀b u,H b=some u->H' b=some u:=fun b u e=>by rw [old b (I.dW.lt e)]; exact e
 refine I.un ⟨fun b u q _ _ _=>k b u q,fun b u q _ _ _=>⟨u.slots,k b u q⟩,fun b u q n _=>by rw [old b (au q)]; exact n,fun b u q _=>⟨u,k b u q⟩,fun b xs q=>up b _ q,fun b u xs q=>up b _ q,fun b ps q=>⟨#[],by rw [up b _ q]; simp⟩⟩ fun b u e=> ?_
 by_cases hb:b < s.heap.objs.size
 ·rw [old b hb]at e
  exact(I.dW b u e).stay (fun c v _ q=>k c v q) (fun c q=>up c _ q) fun c xs q=>up c _ q
 ·exact new b u (sU hb) e
end
section
variable {X:Cx}{ρ:eZ}{e:Expr}{pos p p2 p3:Pos}{kv:l8}{m:Nat}
theorem wX{bs:List Addr}(hb:bs.length=kv.length):(bs.zip (kv.map (·.1))).map (·.2)=kv.map (·.1):=jh (by rw [ae]; omega)
theorem cE.mapZ{K:Frag}{M:MP}{H:Hp}{β:Type}{f:β->D}{g:β->V}: ∀{l:List β},(∀x∈l,Dn K M H (f x) (g x))->cE K M H (l.map f) (l.map g)
 | [],_=>rfl
 | x::l,h=>⟨g x,_,rfl,h x (.head _),cE.mapZ fun y hy=>h y (.tail _ hy)⟩
theorem A3{β:Type}{g:β->V}{g':β->Value}: ∀{l:List β},(∀x∈l,RelV (g x) (g' x))->Vals (l.map g) (l.map g')
 | [],_=> .nil
 | x::l,h=> .cons (h x (.head _)) (A3 fun y hy=>h y (.tail _ hy))
theorem tL(hh:X.A.handled=none)(hu:X.A.units+8 < cLine)(nd:(kv.map (·.1)).Nodup)(hm: ∀x∈kv,x.1.length=m)(m0:0 < m)(ie:kv.length<=sizeLine):gz X (.builtin "sorted") (fun xs H Q=> ∃q M,xs= [.ref q]/\Dn X.K M H (uU kv) (.ref q)/\ ∀l ys,H l=none->cE X.K M H ((fH ky (kv.map (·.1))).map jQ) ys->Q (.ref l) (upd H l (.lst ys))):=by
 intro pins s σ H xs us Q I r ⟨q,M,e,dn,k⟩
 subst e
 obtain⟨u,rfl,rx⟩:=vals1 r
 cases rx
 obtain⟨a,bs,ea,h1,h2,h3,h4⟩:=dn
 cases ea
 rw [ae]at h2
 obtain⟨⟨no,o,es,ep,g1,g2,g3,g4⟩,_⟩:=(show fI X.prog X.w H s.heap q (jV q _)from I.dW q _ h1)
 obtain⟨zs,a1,a2,a3⟩:=qN (X:=X) h2 g4
 have t2: ∀x∈bs.zip (kv.map (·.1)),Dn X.K M H (jQ x.2) (.ref x.1):=fun x hx=>by
  obtain⟨j,hj,rfl⟩:=aN.mp hx
  rw [bK,ae]at hj
  rw [eP,aV]
  exact h4.refs (j:=j) (by rw [aj,ah (by omega)]; rfl) (ah _)
 have hes:es.size=kv.length:=by rw [<-ak,a1,ae,a2]
 refine yn (pr:=(bs.zip (kv.map (·.1))).map fun x=>(aq x.1,x.2)) (m:=m) hh hu no ⟨o,g1,g2,g3⟩ (by rw [hes]; exact ie) ?_ (fun x hx=> ?_) (fun x hx=> ?_) m0 ?_ fun h' tk D out c hD so hg hk=> ?_
 ·rw [a1,bV,bV]
  apply List.ext_getElem (by rw [ae,ae,bK,ae]; omega)
  intro j hj1 hj2
  rw [ae]at hj1
  obtain⟨t,e⟩:=a3 j (by omega) hj1 (by omega)
  rw [aV,aV,eP]
  show(wy (nu X.prog X.w) zs[j]).key=_
  rw [e]
  rfl
 ·obtain⟨y,hy,rfl⟩:=aQ.mp hx
  obtain⟨b,e,_,t⟩:=qb I (t2 y hy) (u:= .ref y.1) rfl
  cases e
  exact⟨_,rfl,t⟩
 ·obtain⟨y,hy,rfl⟩:=aQ.mp hx
  have:y.2∈kv.map (·.1):=(jM hy).2
  obtain⟨z,hz,e⟩:=aQ.mp this
  show y.2.length=m
  rw [<-e]
  exact hm z hz
 ·rw [bV]
  have:((fun x:Value×gr=>x.2) ∘ fun x:Addr×gr=>(aq x.1,x.2))=fun x:Addr×gr=>x.2:=rfl
  rw [this,wX h2]
  exact nd
 ·obtain⟨qs,p1,p2',p3'⟩:=so
  obtain⟨l,l1,l2⟩:=mz p1
  subst l2
  have ksrt:l.map (·.2)=fH ky (kv.map (·.1)):=by
   refine kN zi ?_ ?_ nd
   ·rw [cp]at p3' ⊢
    exact p3'
   ·have:=l1.map (fun x:Addr×gr=>x.2)
    rw [wX h2]at this
    exact this
  rw [bV]at p2'
  have len:l.length<=sizeLine:=by rw [l1.length_eq,bK,ae]; omega
  refine⟨.ref D,_,I.laid (t':=tk) (fun b o e=>hk b o e) hD (o:= .lst (l.map fun x=>V.ref x.1)) ⟨by rw [ae]; exact len,out,c, ?_,hg⟩,rfl,k D _ (I.dW.fresh hD) ?_⟩
  ·rw [<-p2']
   exact A3 fun x _=>rfl
  ·rw [<-ksrt,bV]
   exact cE.mapZ fun x hx=>t2 x (l1.mem_iff.mp hx)
theorem ef.sortedDc(hh:X.A.handled=none)(hu:X.A.units+8 < cLine)(nd:(kv.map (·.1)).Nodup)(hml: ∀x∈kv,x.1.length=m)(m0:0 < m)(ie:kv.length<=sizeLine)(hg:Gl X "sorted")(hm:X.mg "sorted"=none)(h:az X ρ e (uU kv))(he:ax [e] X.env= [(false,eval e X.env)]:=by rfl):ef X ρ (.Call (.Name "sorted" p) [e] [] pos) ((fH ky (kv.map (·.1))).map jQ):=fun M0 H0 γ α σ H Q R k=>
 (il (tL hh hu nd hml m0 ie) hg hm (by decide +kernel) (dQ g8 gD he) (by decide) (by decide) he).to (h M0 H0 γ α σ H _ R fun v H1 s1 d1=>by
  have d1':=d1
  obtain⟨a,bs,rfl,_⟩:=d1
  refine⟨a,_,rfl,d1',fun l ys hl dn=>k l ys H1 _ s1 hl (bw hl) bG ?_⟩
  exact(dn.re fun b z=>z.elim .inl fun w=> .inr (by rw [w]; exact hl)).same (bw hl))
def Lo(v d:Addr):HO:= .ext fun h=>h.get? v=some (xq d)
theorem Ep{o:Expr}{to:TE}(ho:PE X o to)(hbase:jk o "items" X.env (eval o X.env)=eval o X.env:=by rfl)(hline:(p2.endLine==p3.line)=true:=by rfl):
  PE X (.Call (.Attribute o "items" p2) [] [] p3) (fun σ H Q=>to σ H fun x H1=> ∃d xs,x= .ref d/\H1 d=some (jV d xs)/\ ∀v,H1 v=none->Q (.ref v) (upd H1 v (Lo v d))):=by
 intro pins s σ H Q I h
 refine wpAny_Call_method0_late hbase hline (eQ (ho pins s σ H _ I h) fun v s1 ⟨x,H1,I1,r1,d,xs,ex,hd,q⟩=> ?_)
 subst ex
 obtain rfl:v=aq d:=r1
 obtain⟨⟨no,ob,es,ep,g1,g2,g3,g4⟩,_⟩:=(show fI X.prog X.w H1 s1.heap d (jV d _)from I1.dW d _ hd)
 refine⟨"dict","dict.items",PySem.F.plainAttrs_dict,PySem.F.slot_dict_items,PySem.F.type_dict_items,⟨ob,g1,g2.1⟩,fun b q=>by cases q; exact⟨ob,g1,g2.2.1⟩,Calls.callWith_builtin rfl (PySem.evalArgs_none ?_)⟩
 refine call_meetsIn PySem.F.slot_dict_items ⟨ob,g1,g2.1⟩ PySem.F.entry_dict_items (PySem.F.args_dict_items_1 _) (Cr (es:=es) (ep:=ep) no) ⟨⟨ob,g1,g2,g3⟩, ?_⟩
 refine⟨.ref s1.heap.objs.size,_,I1.laid (t':=s1.toks) (fun _ _ q=>af _ q) (ay _) (o:=Lo s1.heap.objs.size d) ⟨ar _ rfl,⟨_,ar _ rfl⟩,fun h1 h2 e k=>k _ e⟩,rfl,q _ (I1.dW.fresh (ay _))⟩
def tV(x:gr×Int):D:= .tup [jQ x.1, .int x.2]
theorem EB(n:Nat)(r:List Int):D.bare (n+1) (zf r):=fun d hd=>by
 obtain⟨i,_,rfl⟩:=aQ.mp hd
 cases n <;> exact c6
theorem j_(n:Nat)(rs:gr):D.bare (n+2) (jQ rs):=fun d hd=>by
 obtain⟨r,_,rfl⟩:=aQ.mp hd
 exact EB n r
theorem A5(n:Nat)(x:gr×Int):D.bare (n+3+1) (tV x):=fun d hd=>by
 rcases aO.mp hd with rfl | hd
 ·exact j_ (n+1) x.1
 ·rcases aK.mp hd with rfl
  exact c6
open Classical in
noncomputable def HG (H:Hp) (l:Addr) (ys:List V) (ps:List (Addr×Addr×Int)):Hp:=fun b=>if b=l then some (.lst ys)else if h: ∃p∈ps,p.1=b then some (.tup [.ref h.choose.2.1, .int h.choose.2.2])else H b
theorem tH(hh:X.A.handled=none)(hu:X.A.units+8 < cLine)(nd:(kv.map (·.1)).Nodup)(ie:kv.length<=sizeLine):gz X (.builtin "sorted") (fun xs H Q=> ∃v d M,xs= [.ref v]/\H v=some (Lo v d)/\Dn X.K M H (uU kv) (.ref d)/\ ∀l ys H',H l=none->bP H H'->H' l=some (.lst ys)->cE X.K M H' ((fH eD kv).map tV) ys->Q (.ref l) H'):=by
 intro pins s σ H xs us Q I r ⟨v,d,M,e,hv,dn,k⟩
 subst e
 obtain⟨u,rfl,rx⟩:=vals1 r
 cases rx
 obtain⟨a,bs,ea,h1,h2,h3,h4⟩:=dn
 cases ea
 rw [ae]at h2
 obtain⟨hv1,_⟩:=(show fI X.prog X.w H s.heap v (Lo v d)from I.dW v _ hv)
 obtain⟨⟨no,o,es,ep,g1,g2,g3,g4⟩,_⟩:=(show fI X.prog X.w H s.heap d (jV d _)from I.dW d _ h1)
 obtain⟨zs,a1,a2,a3⟩:=qN (X:=X) h2 g4
 have hes:es.size=kv.length:=by rw [<-ak,a1,ae,a2]
 have ent: ∀j (hj:j < es.size), ∃t,es[j].key= .ref (bs[j]'(by omega))/\es[j].val= .int (kv[j]'(by omega)).2 t:=fun j hj=>by
  obtain⟨t,e⟩:=a3 j (by omega) (by omega) (by omega)
  have q:es[j]=wy (nu X.prog X.w) (zs[j]'(by omega)):=by
   have:es.toList[j]'(by rw [ak]; exact hj)=(zs.map (wy (nu X.prog X.w)))[j]'(by rw [ae]; omega):=by simp only [a1]
   rw [aV]at this
   simpa using this
  rw [q,e]
  exact⟨t,rfl,rfl⟩
 have dnk: ∀j (hj:j < kv.length),Dn X.K M H (jQ kv[j].1) (.ref (bs[j]'(by omega))):=fun j hj=>h4.refs (j:=j) (by rw [aj,ah hj]; rfl) (ah _)
 have ndk:kv.Nodup:=by
  refine List.Pairwise.imp ?_ (cp.mp nd)
  intro a b h z
  exact h (by rw [z])
 refine vU (ks:=kv) hh hu hv1 ⟨o,g1,g2,g3⟩ (by rw [hes]; exact ie) hes.symm (fun j hj=> ?_) ndk fun h' D cs out c hD hcl hnew hc so hg hk=> ?_
 ·obtain⟨t,e1,e2⟩:=ent j hj
  obtain⟨b,e,_,t2⟩:=qb I (dnk j (by omega)) (u:= .ref (bs[j]'(by omega))) rfl
  cases e
  exact⟨_,t,e1,e2,t2⟩
 ·obtain⟨qs,p1,p2',p3'⟩:=so
  have ez:(cs.map aq).zip kv=(cs.zip kv).map fun x=>(aq x.1,x.2):=by
   rw [List.zip_map_left]
   rfl
  rw [ez]at p1
  obtain⟨l,l1,l2⟩:=mz p1
  subst l2
  have e2:(cs.zip kv).map (·.2)=kv:=jh (by omega)
  have ksrt:l.map (·.2)=fH eD kv:=by
   refine kN BB ?_ ?_ ndk
   ·rw [cp]at p3' ⊢
    exact p3'
   ·have:=l1.map (fun x:Addr×(gr×Int)=>x.2)
    rw [e2]at this
    exact this
  rw [bV]at p2'
  have len:l.length=kv.length:=by rw [l1.length_eq,bK]; omega
  let ps:List (Addr×Addr×Int):=cs.zip (bs.zip (kv.map (·.2)))
  have hps: ∀p∈ps, ∃j, ∃hj:j < kv.length,p=(cs[j]'(by omega),bs[j]'(by omega),kv[j].2):=fun p hp=>by
   obtain⟨j,hj,rfl⟩:=aN.mp hp
   have hj':j < kv.length:=by simp only [ps,bK,ae]at hj; omega
   refine⟨j,hj', ?_⟩
   simp [ps]
  have pin: ∀j (hj:j < kv.length),(cs[j]'(by omega),bs[j]'(by omega),kv[j].2)∈ps:=fun j hj=>by
   have hl:j < ps.length:=by simp only [ps,bK,ae]; omega
   have:ps[j]=(cs[j]'(by omega),bs[j]'(by omega),kv[j].2):=by simp [ps]
   rw [<-this]
   exact aR hl
  have hobj: ∀j (hj:j < kv.length), ∃t,h'.get? (cs[j]'(by omega))=some {cls:= .type "tuple",data:= .seq #[.ref (bs[j]'(by omega)), .int kv[j].2 t]}:=fun j hj=>by
   obtain⟨hj2,e⟩:=hc j (cs[j]'(by omega)) (ah _)
   obtain⟨t,q1,q2⟩:=ent j hj2
   refine⟨t, ?_⟩
   rw [e]
   unfold fK
   rw [q1,q2]
  have hDc: ∀j (hj:j < kv.length),cs[j]'(by omega)≠D:=fun j hj z=>by
   obtain⟨t,e⟩:=hobj j hj
   rw [z,hg]at e
   exact absurd (show cz "list"=cz "tuple" from congrArg Obj.cls (aA e)) (by decide)
  let ys:List V:=l.map fun x=>V.ref x.1
  have hat: ∀j (hj:j < kv.length),HG H D ys ps (cs[j]'(by omega))=some (.tup [.ref (bs[j]'(by omega)), .int kv[j].2]):=fun j hj=>by
   have hx: ∃p∈ps,p.1=cs[j]'(by omega):=⟨_,pin j hj,rfl⟩
   unfold HG
   rw [if_neg (hDc j hj),dif_pos hx]
   obtain⟨m1,m2⟩:=hx.choose_spec
   obtain⟨i,hi,ei⟩:=hps _ m1
   rw [ei]at m2 ⊢
   obtain⟨t,q1⟩:=hobj j hj
   obtain⟨t',q2⟩:=hobj i hi
   have m2:cs[i]'(by omega)=cs[j]'(by omega):=m2
   rw [m2,q1]at q2
   simp only [Option.some.injEq,Obj.mk.injEq,Data.seq.injEq,Array.mk.injEq,List.cons.injEq,Value.ref.injEq,Value.int.injEq,and_true,true_and]at q2
   obtain⟨z1,z2,_⟩:=q2
   show some (HO.tup [.ref (bs[i]'(by omega)), .int kv[i].2])=_
   rw [z1,z2]
  have old: ∀b,b < s.heap.objs.size->HG H D ys ps b=H b:=fun b hb=>by
   unfold HG
   rw [if_neg (aF (aZ hb hD)),dif_neg]
   rintro⟨p,hp,rfl⟩
   obtain⟨j,hj,rfl⟩:=hps p hp
   have:=hnew (cs[j]'(by omega)) (aR _)
   exact absurd hb (Nat.not_lt.mpr this)
  have I':Inv X pins σ (HG H D ys ps) {s with heap:=h',toks:=s.toks}:=by
   refine EK I hk old fun b u hb e=> ?_
   by_cases hbD:b=D
   ·subst hbD
    have e:some (HO.lst ys)=some u:=by rw [<-e]; unfold HG; rw [if_pos rfl]
    cases e
    refine⟨by show(l.map _).length<=_; rw [ae,len]; exact ie,out,c, ?_,hg⟩
    rw [<-p2']
    exact A3 fun x _=>rfl
   ·by_cases hx: ∃p∈ps,p.1=b
    ·obtain⟨p,hp,rfl⟩:=hx
     obtain⟨j,hj,rfl⟩:=hps p hp
     rw [hat j hj]at e
     cases e
     obtain⟨t,q⟩:=hobj j hj
     exact⟨jq (by show 2<=_; omega), [.ref (bs[j]'(by omega)), .int kv[j].2 t], .cons rfl (.cons ⟨t,rfl⟩ .nil),_,q,rfl,_,rfl⟩
    ·have:H b=some u:=by
      unfold HG at e
      rw [if_neg hbD,dif_neg hx]at e
      exact e
     exact absurd (I.dW.lt this) (Nat.not_lt.mpr hb)
  have sm:bP H (HG H D ys ps):=fun b o e=>by rw [old b (I.dW.lt e)]; exact e
  refine⟨.ref D,_,I',rfl,k D ys _ (I.dW.fresh hD) sm (by unfold HG; rw [if_pos rfl]) ?_⟩
  rw [<-ksrt,bV]
  refine cE.mapZ fun x hx=> ?_
  have hx2:=l1.mem_iff.mp hx
  obtain⟨j,hj,rfl⟩:=aN.mp hx2
  rw [bK]at hj
  have hj':j < kv.length:=by omega
  rw [eP]
  refine⟨_,_,rfl, .inl (.inl (hat j hj')), ?_⟩
  exact⟨_,_,rfl,(dnk j hj').same sm,_,_,rfl,rfl,rfl⟩
theorem ef.sortedIt(hh:X.A.handled=none)(hu:X.A.units+8 < cLine)(nd:(kv.map (·.1)).Nodup)(ie:kv.length<=sizeLine)(hg:Gl X "sorted")(hm:X.mg "sorted"=none)(h:az X ρ e (uU kv))(hbase:jk e "items" X.env (eval e X.env)=eval e X.env:=by rfl)(hline:(p2.endLine==p3.line)=true:=by rfl)
  (he:ax [.Call (.Attribute e "items" p2) [] [] p3] X.env= [(false,eval (.Call (.Attribute e "items" p2) [] [] p3) X.env)]:=by rfl):ef X ρ (.Call (.Name "sorted" p) [.Call (.Attribute e "items" p2) [] [] p3] [] pos) ((fH eD kv).map tV):=fun M0 H0 γ α σ H Q R k=>
 (il (tH hh hu nd ie) hg hm (by decide +kernel) (dQ (Ep g8 hbase hline) gD he) (by decide) (by decide) he).to (h M0 H0 γ α σ H _ R fun v H1 s1 d1=>by
  have d1':=d1
  obtain⟨a,bs,rfl,hd,_⟩:=d1
  refine⟨a,_,rfl,hd,fun v hv=> ?_⟩
  refine⟨v,a,_,rfl,bG,d1'.same (bw hv),fun l ys H2 hl sm hl2 dn=>k l ys _ H2 (s1.trans (bw hv)) hl sm hl2 (cE.map1 (fun d hd v=> ?_) dn)⟩
  obtain⟨x,_,rfl⟩:=aQ.mp hd
  exact Dn.bare 9 (A5 5 x))
end
section
variable {K:Frag}{M M':MP}{H H':Hp}{a b:Addr}{xs:List (Int×Addr×Int)}
theorem Fs{ys:List V}(ha:H a=some (jV a xs))(h:i5 K H b ys):i5 K (eu H a) b ys:=by
 rcases h with(h | ⟨o,h⟩) | h
 ·exact .inl (.inl (jI (fun z=>by rw [z,ha]at h; cases h) h))
 ·exact .inl (.inr ⟨o,jI (fun z=>by rw [z,ha]at h; cases h) h⟩)
 ·exact .inr h
theorem Dn.hideB(ha:H a=some (jV a xs)): ∀(n:Nat) {d:D} {v:V},D.bare n d->Dn K M H d v->Dn K M' (eu H a) d v:=by
 intro n
 induction n with
 | zero=>intro d v hf h; cases d <;> first | exact h | exact hf.elim
 | succ n ih=>
  intro d v hf h
  cases d with
  | tup ds=>
   obtain⟨c,ys,e,s,r⟩:=h
   exact⟨c,ys,e,Fs ha s,cE.map1 (fun d hd v=>ih (hf d hd)) r⟩
  | ins C ns ds=>
   obtain⟨c,dx,fs,e,s,hn,r⟩:=h
   exact⟨c,dx,fs,e,jI (fun z=>by rw [z,ha]at s; cases s) s,hn,cE.map1 (fun d hd v=>ih (hf d hd)) r⟩
  | non=>exact h
  | bl _=>exact h
  | int _=>exact h
  | str _=>exact h
  | _=>exact hf.elim
theorem Dn.hideL(ha:H a=some (jV a xs)){ds:List D}{v:V}(hb: ∀d∈ds,D.bare 9 d)(h:Dn K M H (.lst ds) v):Dn K M (eu H a) (.lst ds) v:=by
 obtain⟨c,ys,e,s,r⟩:=h
 refine⟨c,ys,e, ?_,cE.map1 (fun d hd v=>Dn.hideB ha 9 (hb d hd)) r⟩
 rcases s with⟨s | ⟨o,s⟩,m⟩ | s
 ·exact .inl ⟨.inl (jI (fun z=>by rw [z,ha]at s; cases s) s),m⟩
 ·exact .inl ⟨.inr ⟨o,jI (fun z=>by rw [z,ha]at s; cases s) s⟩,m⟩
 ·exact .inr s
theorem x9{l:Addr}{o:HO}(h:l≠a):eu (upd H l o) a=upd (eu H a) l o:=by
 funext b
 unfold eu upd
 by_cases h1:b=a
 ·rw [if_pos h1]
  by_cases h2:b=l
  ·exact absurd (h2.symm.trans h1) h
  ·rw [if_neg h2]; exact(if_pos h1).symm
 ·rw [if_neg h1]
  by_cases h2:b=l
  ·rw [if_pos h2,if_pos h2]
  ·rw [if_neg h2,if_neg h2]; exact(if_neg h1).symm
theorem oI{o:HO}:eu (upd H a o) a=eu H a:=by
 funext b
 unfold eu upd
 by_cases h1:b=a
 ·rw [if_pos h1,if_pos h1]
 ·rw [if_neg h1,if_neg h1,if_neg h1]
end
abbrev kD(kv:l8):List D:=kv.map fun x=>jQ x.1
structure c5(X:Cx)(M0:MP)(H0:Hp)(γ:List (D×V))(α:Nat->Addr)(ρ:eZ)(σ:St)(H:Hp)(i:Nat)(a:Addr)(kv:l8):Prop where
 r:Rep X.K M0 H0 γ α ρ σ (eu H a)
 un:ρ[i]? =some .un
 at_:σ[i]? =some (some (.ref a))
 nd:(kv.map (·.1)).Nodup
 ex: ∃bs:List Addr,bs.length=kv.length/\H a=some (jV a (oK (kD kv) bs (kv.map (·.2))))/\cE X.K (MM M0 ρ α) (eu H a) (kD kv) (bs.map V.ref)
section
variable {X:Cx}{ρ:eZ}{M0:MP}{H0 H H':Hp}{γ:List (D×V)}{α:Nat->Addr}{σ:St}{En:Ends}{sts s1 s2 body:List Stmt}{e c:Expr}{d:D}{ds:List D}{pos pos' p p1 p2 p3:Pos}{i j t:Nat}{x:Str}{a:Addr}{kv:l8}
theorem c5.lt(B:c5 X M0 H0 γ α ρ σ H i a kv):i < ρ.length:=(aD.mp B.un).1
theorem c5.next(B:c5 X M0 H0 γ α ρ σ H i a kv)(s:bP H H'):c5 X M0 H0 γ α ρ σ H' i a kv:=by
 obtain⟨bs,h1,h2,h3⟩:=B.ex
 exact⟨B.r.next (mL s),B.un,B.at_,B.nd,bs,h1,s _ _ h2,h3.same (mL s)⟩
theorem c5.view(B:c5 X M0 H0 γ α ρ σ H i a kv):Rep X.K M0 H0 γ α (ρ.set i (.im (uU kv))) σ H:=by
 obtain⟨bs,h1,h2,h3⟩:=B.ex
 exact(B.r.next eX).view B.lt B.at_ ⟨a,bs,rfl,h2,by rw [h1,ae],by rw [ae,ae],h3.same eX⟩
theorem c5.obj(B:c5 X M0 H0 γ α ρ σ H i a kv): ∃xs,H a=some (jV a xs):=let⟨_,_,h,_⟩:=B.ex; ⟨_,h⟩
theorem c5.unghost{q:D×V}(B:c5 X M0 H0 (q::γ) α ρ σ H i a kv):c5 X M0 H0 γ α ρ σ H i a kv:=⟨B.r.unghost,B.un,B.at_,B.nd,B.ex⟩
theorem c5.put_im(B:c5 X M0 H0 γ α ρ σ H i a kv)(hj:j < ρ.length)(hji:j≠i){v:V}(h:Dn X.K (MM M0 ρ α) (eu H a) d v):c5 X M0 H0 γ α (ρ.set j (.im d)) (σ.set j (some v)) H i a kv:=by
 obtain⟨bs,h1,h2,h3⟩:=B.ex
 exact⟨B.r.set_im hj h,by rw [dR hji.symm]; exact B.un,by rw [dR hji.symm]; exact B.at_,B.nd,bs,h1,h2,h3.less fun b z=>jx (fun _ q=>by cases q) z⟩
theorem c5.set(B:c5 X M0 H0 γ α ρ σ H i a kv)(hN:X.N.Nodup)(hj:X.N[j]? =some x)(hx:Loc X.env.scope x)(hl:j < ρ.length)(hji:j≠i)(h:az X (ρ.set i (.im (uU kv))) e d)(hb:D.bare 9 d)
  (k: ∀v H',c5 X M0 H0 γ α (ρ.set j (.im d)) (σ.set j (some v)) H' i a kv->nE X sts En (σ.set j (some v)) H')
  (hs:cO e (some (.Name x pos')) pos.line X.env=pure false:=by rfl)(hf:X.fn x=true\/X.env.scope.names.lookup x=some .local:=by first | exact .inl rfl | exact .inr rfl | assumption):nE X (.Assign [.Name x pos'] e pos::sts) En σ H:=
 (dS uM gI).to ((pL hN hj hx g8 hs hf).to (h M0 H0 γ α σ H _ B.view fun v H1 s1 dn=>by
  have D1:=B.next s1
  obtain⟨xs,ho⟩:=D1.obj
  exact k v H1 (D1.put_im hl hji (Dn.hideB ho 9 hb dn))))
theorem c5.ite{b:Bool}(B:c5 X M0 H0 γ α ρ σ H i a kv)(h:c8 X (ρ.set i (.im (uU kv))) c b)(k1:b=true-> ∀H',c5 X M0 H0 γ α ρ σ H' i a kv->nE X s1 En σ H')(k2:b=false-> ∀H',c5 X M0 H0 γ α ρ σ H' i a kv->nE X s2 En σ H'):tS X (.If c s1 s2 pos) En σ H:=
 (Ay Fw gI gI).to (h M0 H0 γ α σ H _ B.view fun H1 s1=>by
  cases e:b with
  | true=>exact tZ (k1 e H1 (B.next s1))
  | false=>exact rD (k2 e H1 (B.next s1)))
theorem c5.append(B:c5 X M0 H0 γ α ρ σ H i a kv)(hj:X.N[j]? =some x)(hv:wM X.env.scope x)(hji:j≠i)(hρ:ρ[j]? =some (.mu ds))(hlen:ds.length < 1000000)(h:az X (ρ.set i (.im (uU kv))) e d)(hb:D.bare 9 d)
  (k: ∀H',c5 X M0 H0 γ α (ρ.set j (.mu (ds ++ [d]))) σ H' i a kv->En.nx σ H')(mc:IB X (.Name x p1) "append" e p2 p3)(hd:(x==("__debug__":Str))=false:=by decide)(hcd:(x==("__classdict__":Str))=false:=by decide)
  (hsw:cO (.Call (.Attribute (.Name x p1) "append" p2) [e] [] p3) none pos.line X.env=pure false:=by rfl):tS X (.Expr (.Call (.Attribute (.Name x p1) "append" p2) [e] [] p3) pos) En σ H:=by
 obtain⟨a1,a2,xs,a3,a4⟩:=B.r.mu j ds hρ
 have hla:α j≠a:=fun z=>by rw [z,oW]at a3; cases a3
 refine K8 hj hv B.view a2 (eX _ _ a3) (by rw [a4.len]; exact hlen) h (fun H1 v s1 dn=>k _ ?_) mc hd hcd hsw
 have D1:=B.next s1
 obtain⟨ys,ho⟩:=D1.obj
 obtain⟨_,_,zs,b3,b4⟩:=D1.r.mu j ds hρ
 have e3:zs=xs:=by
  have h1:=eX _ _ b3
  have h2:=s1 _ _ (eX _ _ a3)
  rw [h1]at h2
  cases h2
  rfl
 subst e3
 have dn':Dn X.K (MM M0 ρ α) (eu H1 a) d v:=Dn.hideB ho 9 hb dn
 obtain⟨bs,q1,q2,q3⟩:=D1.ex
 have R:=D1.r.upd_mu hρ (b4.app (cE.one dn'))
 have kp:nJ (MM M0 ρ α) (eu H1 a) (upd (eu H1 a) (α j) (.lst (zs ++ [v]))):=fun b o e n=>by
  by_cases hb:b=α j
  ·subst hb
   rw [b3]at e
   cases e
   exact absurd (.inr ⟨j,ds,hρ,rfl⟩) (n _ rfl)
  ·rw [cu hb]; exact e
 refine⟨by rw [x9 hla]; exact R,by rw [dR hji.symm]; exact D1.un,D1.at_,D1.nd,bs,q1,by rw [cu hla.symm]; exact q2, ?_⟩
 rw [x9 hla]
 refine(q3.keep kp).less fun b z=> ?_
 rcases z with z | ⟨m,es,e,z⟩
 ·exact .inl z
 ·rcases get_set e with⟨rfl,q⟩ | ⟨_,q⟩
  ·exact .inr ⟨m,ds,hρ,z⟩
  ·exact .inr ⟨m,es,q,z⟩
theorem c5.for(I:Nat->eZ->l8->Prop)(hp:sS (model X.prog X.w) X.A X.env X.xe)(hc:X.calm=true)(hN:X.N.Nodup)(ht:X.N[t]? =some x)(hx:Loc X.env.scope x)(hti:t≠i)(B:c5 X M0 H0 γ α ρ σ H i a kv)(hs:az X (ρ.set i (.im (uU kv))) e (.lst ds))(hb: ∀d∈ds,D.bare 9 d)(h0:I 0 ρ kv)(hlt: ∀n ρ kv,I n ρ kv->t < ρ.length)
  (turn: ∀(γ':List (D×V)) (n:Nat) (d:D) (α:Nat->Addr) (ρ:eZ) (σ:St) (H:Hp) (kv:l8),ds[n]? =some d->I n ρ kv->c5 X M0 H0 γ' α (ρ.set t (.im d)) σ H i a kv->nE X body {En with nx:=fun σ H=> ∃α ρ kv,c5 X M0 H0 γ' α ρ σ H i a kv/\I (n+1) ρ kv,ct:=fun σ H=> ∃α ρ kv,c5 X M0 H0 γ' α ρ σ H i a kv/\I (n+1) ρ kv,bk:=En.nx} σ H)
  (done: ∀α ρ σ H kv,I ds.length ρ kv->c5 X M0 H0 γ α ρ σ H i a kv->En.nx σ H)(hf: ∀x,iO e X.env x=pure x:=by intro _; rfl)(hfn:X.fn x=true\/X.env.scope.names.lookup x=some .local:=by first | exact .inl rfl | exact .inr rfl | assumption):tS X (.For (.Name x p) e body [] pos) En σ H:=by
 refine(D_ hp hc (Bi g8) MS gI hf).to (hs M0 H0 γ α σ H _ B.view fun v H1 s1 dn=> ?_)
 have D1:=B.next s1
 obtain⟨ys,ho⟩:=D1.obj
 have dn':Dn X.K (MM M0 ρ α) (eu H1 a) (.lst ds) v:=(Dn.hideL ho hb dn).less fun b z=>by
  rcases z with z | ⟨m,es,e,z⟩
  ·exact .inl z
  ·refine .inr ⟨m,es, ?_,z⟩
   rw [dR (fun q=>by rw [q,B.un]at e; cases e)]
   exact e
 obtain⟨l,xs,rfl,sq,dd⟩:=id dn'
 refine⟨l,rfl,⟨xs,eX.seq sq.l⟩,fun n m σ H=>m=ds.length - n/\n<=ds.length/\ ∃α ρ kv,c5 X M0 H0 ((.lst ds, .ref l)::γ) α ρ σ H i a kv/\I n ρ kv,⟨ds.length,by simp,bW _,α,ρ,kv,⟨D1.r.ghost dn',D1.un,D1.at_,D1.nd,D1.ex⟩,h0⟩, ?_⟩
 rintro n m σ2 H2 ⟨rfl,hn,α2,ρ2,kv2,D2,i2⟩
 obtain⟨l',xs',el,sq',dn2⟩:=D2.r.gh _ bO
 cases el
 by_cases hlt':n < ds.length
 ·refine .inr ⟨⟨xs',xs'[n]'(by rw [dn2.len]; exact hlt'),eX.seq sq'.l,ah _⟩,fun σ' H'=> ∃α ρ kv,c5 X M0 H0 ((.lst ds, .ref l)::γ) α ρ σ' H' i a kv/\I (n+1) ρ kv,
   fun σ' H' ⟨α',ρ',kv',D',i'⟩=>⟨ds.length - (n+1),by omega,rfl,hlt',α',ρ',kv',D',i'⟩,fun y H' hy=> ?_⟩
  obtain⟨e,hy⟩:=hy
  subst e
  obtain⟨d,hd',dd⟩:=dn2.getV (hy xs' (eX.seq sq'.l))
  refine(lA hN ht hx hfn).to ?_
  exact turn _ n d α2 ρ2 _ _ kv2 hd' i2 (D2.put_im (hlt n ρ2 kv2 i2) hti dd)
 ·have e:n=ds.length:=by omega
  subst e
  exact .inl ⟨⟨xs',eX.seq sq'.l,by rw [dn2.len]; exact ay _⟩,done α2 ρ2 σ2 H2 kv2 i2 D2.unghost⟩
theorem c5.while(I:eZ->l8->Prop)(μ:eZ->l8->Nat)(hp:sS (model X.prog X.w) X.A X.env X.xe)(B:c5 X M0 H0 γ α ρ σ H i a kv)(h0:I ρ kv)
  (turn: ∀(α:Nat->Addr) (ρ:eZ) (σ:St) (kv:l8),I ρ kv-> ∃b,c8 X (ρ.set i (.im (uU kv))) c b/\(b=true-> ∀H,c5 X M0 H0 γ α ρ σ H i a kv->nE X body {En with nx:=fun σ H=> ∃α ρ' kv',c5 X M0 H0 γ α ρ' σ H i a kv'/\I ρ' kv'/\μ ρ' kv' < μ ρ kv,ct:=fun σ H=> ∃α ρ' kv',c5 X M0 H0 γ α ρ' σ H i a kv'/\I ρ' kv'/\μ ρ' kv' < μ ρ kv,bk:=En.nx} σ H)/\(b=false-> ∀H,c5 X M0 H0 γ α ρ σ H i a kv->En.nx σ H)):tS X (.While c body [] pos) En σ H:=by
 refine(xu hp Fw gI).to ⟨fun m σ H=> ∃α ρ kv,c5 X M0 H0 γ α ρ σ H i a kv/\I ρ kv/\μ ρ kv=m,⟨μ ρ kv,α,ρ,kv,B,h0,rfl⟩, ?_⟩
 rintro m σ2 H2 ⟨α2,ρ2,kv2,D2,i2,rfl⟩
 obtain⟨b,h1,h2,h3⟩:=turn α2 ρ2 σ2 kv2 i2
 refine h1 M0 H0 γ α2 σ2 H2 _ D2.view fun H3 s=> ?_
 cases e:b with
 | true=>exact tZ ⟨fun σ H=> ∃α ρ' kv',c5 X M0 H0 γ α ρ' σ H i a kv'/\I ρ' kv'/\μ ρ' kv' < μ ρ2 kv2,fun σ' H' ⟨α',ρ',kv',D',i',l'⟩=>⟨_,l',α',ρ',kv',D',i',rfl⟩,h2 e H3 (D2.next s)⟩
 | false=>exact rD (h3 e H3 (D2.next s))
end
theorem yA: ∀{xs:List (Int×Addr×Int)} {es:List dJ} {x:Int×Addr×Int} {e:dJ},mB xs es->(∃t,e=⟨x.1, .ref x.2.1, .int x.2.2 t⟩)->mB (xs ++ [x]) (es ++ [e])
 | [], [],_,_,_,h=>⟨h,trivial⟩
 | [],_::_,_,_,h,_=>h.elim
 | _::_, [],_,_,h,_=>h.elim
 | _::_,_::_,_,_,h,q=>⟨h.1,yA h.2 q⟩
theorem rm: ∀ks:List D,(iK ks).length=ks.length
 | []=>rfl
 | k::ks=>by show(iK ks).length+1=_; rw [rm ks]; rfl
theorem rh: ∀(a b:List D),iK (a ++ b)=iK a ++ iK b
 | [],b=>rfl
 | k::a,b=>by rw [lT]; show oR k::iK (a ++ b)=_; rw [rh a b]; rfl
theorem BG{ks:List D}{bs:List Addr}{ns:List Int}{k:D}{b:Addr}{n:Int}(h1:bs.length=ks.length)(h2:ns.length=ks.length):oK (ks ++ [k]) (bs ++ [b]) (ns ++ [n])=oK ks bs ns ++ [(oR k,b,n)]:=by
 unfold oK
 rw [rh,List.zip_append (by omega),List.zip_append (by rw [rm,bK]; omega)]
 rfl
section
variable {X:Cx}{ρ:eZ}{M0:MP}{H0 H H':Hp}{γ:List (D×V)}{α:Nat->Addr}{σ:St}{En:Ends}{sts:List Stmt}{k v e o i':Expr}{tk tv td:TE}{d:D}{pos pos' p p1 p2 p3:Pos}{i j:Nat}{x y:Str}{a:Addr}{kv:l8}{rs:gr}{n:Int}
theorem DX(hu:X.A.units+8 < cLine)(hk:PE X k tk)(hv:PE X v tv):PE X (.Dict [some k] [v] pos) (fun σ H Q=> ∀a,H a=none->tk σ (upd H a (jV a [])) fun x H1=>tv σ H1 fun y H2=> ∃M rs n b,x= .ref b/\y= .int n/\Dn X.K M H2 (jQ rs) (.ref b)/\H2 a=some (jV a [])/\Q (.ref a) (upd H2 a (jV a [(oR (jQ rs),b,n)]))):=by
 intro pins s σ H Q I h
 have hn:=I.dW.fresh (ay s.heap.objs.size)
 have big:iA < s.heap.objs.size:=by
  have h:cm < s.heap.objs.size:=(I.mod.glob.keeps I.bk).lt
  exact Nat.lt_trans (by decide) h
 have no:(s.heap.objs.size==iA)=false:=beq_eq_false_iff_ne.mpr (ot (aF big))
 have I1:=I.laid (a:=s.heap.objs.size) (o:=jV s.heap.objs.size []) (h':=s.heap.push {cls:= .type "dict",data:= .dict #[]}) (t':=s.toks) (fun _ _ q=>af _ q) (ay _)
  ⟨⟨no,_, #[],0,ar _ rfl,⟨rfl,rfl,rfl⟩,rfl,trivial⟩,⟨_,ar _ rfl⟩,fun h1 h2 ⟨q1,o,es,ep,q2,q3⟩ kk=>⟨q1,o,es,ep,kk _ q2,q3⟩⟩
 refine EO (knd:=nu X.prog X.w) (by show X.A.units+2 < cLine; omega) (eQ (hk pins _ σ _ _ I1 (h _ hn)) fun kv' s1 ⟨x,H1,J1,r1,q1⟩=>eQ (hv pins s1 σ H1 _ J1 q1) fun vv s2 ⟨y,H2,J2,r2,M,rs,n,b,ex,ey,dn,ho,q⟩=> ?_)
 subst ex ey
 obtain⟨t,rfl⟩:=(show ∃t,vv=fQ n t from r2)
 obtain⟨b',e1,e2,t2⟩:=qb J2 dn r1
 cases e2
 obtain⟨⟨_,ob,es,ep,g1,g2,g3,g4⟩,_⟩:=(show fI X.prog X.w H2 s2.heap s.heap.objs.size (jV s.heap.objs.size [])from J2.dW _ _ ho)
 have hes:es.toList= []:=by
  cases h:es.toList with
  | nil=>rfl
  | cons e r=>rw [h]at g4; exact g4.elim
 refine⟨b,rs,e1,t2,⟨ob,es,ep,g1,g2,g3,hes,fun _ hx=>absurd hx c9,nZ⟩,fun h' dd sb=>⟨.ref s.heap.objs.size,_, ?_,rfl,q⟩⟩
 obtain⟨o2,es2,ep2,f1,f2,f3,f4,_,_⟩:=dd
 refine J2.write (x:=s.heap.objs.size) (e:=s.heap.objs.size) (by rw [ho]; exact c6) (.inl rfl) (fun b q hb z=>(sb.2 b hb).trans z) ⟨_,f1⟩ ⟨⟨no,o2,es2,ep2,f1,f2,f3, ?_⟩,⟨_,f1⟩,fun h1 h2 ⟨q1,o,es,ep,q2,q3⟩ kk=>⟨q1,o,es,ep,kk _ q2,q3⟩⟩
 rw [f4]
 refine⟨⟨t, ?_⟩,trivial⟩
 show(⟨uR X.prog X.w rs,_,_⟩:dJ)=_
 rw [wt X.prog X.w]
theorem c5.start(hu:X.A.units+8 < cLine)(R:Rep X.K M0 H0 γ α ρ σ H)(hN:X.N.Nodup)(hj:X.N[i]? =some x)(hx:Loc X.env.scope x)(hl:i < ρ.length)(hk:az X ρ k (jQ rs))(hv:az X ρ v (.int n))
  (kk: ∀a H',c5 X M0 H0 γ α (ρ.set i .un) (σ.set i (some (.ref a))) H' i a [(rs,n)]->nE X sts En (σ.set i (some (.ref a))) H')
  (hs:cO (.Dict [some k] [v] p) (some (.Name x pos')) pos.line X.env=pure false:=by rfl)(hf:X.fn x=true\/X.env.scope.names.lookup x=some .local:=by first | exact .inl rfl | exact .inr rfl | assumption):nE X (.Assign [.Name x pos'] (.Dict [some k] [v] p) pos::sts) En σ H:=by
 refine(dS uM gI).to ((pL hN hj hx (DX hu g8 g8) hs hf).to fun a ha=>hk M0 H0 γ α σ _ _ (R.next (bw ha)) fun u H1 s1 d1=>hv M0 H0 γ α σ H1 _ ((R.next (bw ha)).next s1) fun w H2 s2 d2=> ?_)
 cases (show w= .int n from d2)
 obtain⟨b,ys,rfl,sq,dd⟩:=id d1
 have ho:H2 a=some (jV a []):=s2 _ _ (s1 _ _ bG)
 refine⟨_,rs,n,b,rfl,rfl,d1.same s2,ho,kk a _ ?_⟩
 have sm:bP H (eu (upd H2 a (jV a [(oR (jQ rs),b,n)])) a):=fun c o e=>by
  rw [oI]
  have hne:c≠a:=fun z=>by rw [z,ha]at e; cases e
  exact jI hne (s2 _ _ (s1 _ _ ((bw ha) _ _ e)))
 have dk:Dn X.K (MM M0 ρ α) (eu (upd H2 a (jV a [(oR (jQ rs),b,n)])) a) (jQ rs) (.ref b):=by
  rw [oI]
  exact Dn.hideB ho 9 (j_ 7 rs) (d1.same s2)
 refine⟨(R.next sm).forget,qK hl,qK (by rw [R.len]; exact hl),by simp, [b],rfl, ?_, ?_⟩
 ·rw [bG]
  rfl
 ·exact⟨_,_,rfl,dk.less fun c z=>jx (fun _ q=>by cases q) z,rfl⟩
theorem c5.put(hu:X.A.units+8 < cLine)(B:c5 X M0 H0 γ α ρ σ H i a kv)(hi:X.N[i]? =some x)(hvx:wM X.env.scope x)(hk:az X (ρ.set i (.im (uU kv))) k (jQ rs))(he:az X (ρ.set i (.im (uU kv))) e (.int n))(hnew:rs∉kv.map (·.1))(ie:kv.length<=sizeLine)
  (kk: ∀H',c5 X M0 H0 γ α ρ σ H' i a (kv ++ [(rs,n)])->En.nx σ H')(hs:cO e (some (.Subscript (.Name x p1) k pos')) pos.line X.env=pure false:=by rfl)(hd:(x==("__debug__":Str))=false:=by decide)(hcd:(x==("__classdict__":Str))=false:=by decide):tS X (.Assign [.Subscript (.Name x p1) k pos'] e pos) En σ H:=by
 intro pins s I
 refine wpAny_Assign_Subscript (eQ (he M0 H0 γ α σ H (fun v H1=>bP H H1/\v= .int n) B.view (fun v H1 s1 d1=>⟨s1,d1⟩) pins s I) fun r st1 ⟨v,H1,I1,rv,s1,ev⟩=> ?_) hs
 subst ev
 obtain⟨t,rfl⟩:=(show ∃t,r=fQ n t from rv)
 have B1:=B.next s1
 refine eQ ((jF hi hvx hd hcd) pins st1 σ H1 (fun u H2=>u= .ref a/\H2=H1) I1 ⟨_,B1.at_,rfl,rfl⟩) fun u st2 ⟨z,H2,I2,rz,ez,eH⟩=> ?_
 subst ez eH
 obtain rfl:u=aq a:=rz
 refine eQ (hk M0 H0 γ α σ H2 (fun w H3=>bP H2 H3/\Dn X.K (MM M0 (ρ.set i (.im (uU kv))) α) H3 (jQ rs) w) B1.view (fun w H3 s3 d3=>⟨s3,d3⟩) pins st2 I2) fun w st3 ⟨y,H3,I3,ry,s3,d3⟩=> ?_
 have B2:=B1.next s3
 obtain⟨bs,q1,q2,q3⟩:=B2.ex
 obtain⟨xs,dc⟩:=Ii I3 B2.nd q2 q1 (q3.same eX)
 obtain⟨b,rfl,rfl,t2⟩:=qb I3 d3 ry
 have hl:=dc.len
 refine wpAny_setItem_heap (knd:=nu X.prog X.w) (hsz:=by omega) (by show X.A.in1.units+2 < cLine; rw [gX]; omega) t2 dc.d fun h' dd sb=> ?_
 obtain⟨⟨no,ob,es,ep,g1,g2,g3,g4⟩,_⟩:=(show fI X.prog X.w H3 st3.heap a (jV a _)from I3.dW a _ q2)
 rw [storedH_new (dc.miss hnew)]at dd
 obtain⟨o2,es2,ep2,f1,f2,f3,f4,_,_⟩:=dd
 obtain⟨o3,es3,ep3,e1,e2,e3,e4,_,_⟩:=dc.d
 rw [g1]at e1
 cases e1
 rw [g3]at e3
 cases e3
 have hents:mB (oK (kD (kv ++ [(rs,n)])) (bs ++ [b]) ((kv ++ [(rs,n)]).map (·.2))) es2.toList:=by
  have z1:kD (kv ++ [(rs,n)])=kD kv ++ [jQ rs]:=by unfold kD; rw [bD]; rfl
  have z2:(kv ++ [(rs,n)]).map (·.2)=kv.map (·.2) ++ [n]:=by rw [bD]; rfl
  rw [z1,z2,BG (by rw [q1,ae]) (by rw [ae,ae]),f4,bD, <-e4]
  refine yA g4 ⟨t, ?_⟩
  show(⟨uR X.prog X.w rs,_,_⟩:dJ)=_
  rw [wt X.prog X.w]
 have I4:Inv X pins σ (upd H3 a (jV a (oK (kD (kv ++ [(rs,n)])) (bs ++ [b]) ((kv ++ [(rs,n)]).map (·.2))))) {st3 with heap:=h',toks:=st3.toks+(nu X.prog X.w).draws rs}:=
  I3.write (x:=a) (e:=a) (by rw [q2]; exact c6) (.inl rfl) (fun b q hb z=>(sb.2 b hb).trans z) ⟨_,f1⟩ ⟨⟨no,o2,es2,ep2,f1,f2,f3,hents⟩,⟨_,f1⟩,fun h1 h2 ⟨q1,o,es,ep,q2,q3⟩ kk=>⟨q1,o,es,ep,kk _ q2,q3⟩⟩
 refine⟨σ,_,I4,kk _ ⟨by rw [oI]; exact B2.r,B2.un,B2.at_, ?_,bs ++ [b], ?_,bG, ?_⟩⟩
 ·rw [bD,iU]
  refine⟨B2.nd,by simp,fun u hu w hw=> ?_⟩
  rcases aK.mp hw with rfl
  rintro rfl
  exact hnew hu
 ·rw [aw,aw,q1]
  rfl
 ·rw [oI]
  have z1:kD (kv ++ [(rs,n)])=kD kv ++ [jQ rs]:=by unfold kD; rw [bD]; rfl
  rw [z1,bD]
  exact q3.app (cE.one (Dn.hideB q2 9 (j_ 7 rs) d3))
end
section
variable {X:Cx}{ρ:eZ}{M0:MP}{H0 H H':Hp}{γ:List (D×V)}{α:Nat->Addr}{σ:St}{En:Ends}{sts:List Stmt}{e:Expr}{d:D}{ds:List D}{pos pos':Pos}{i j:Nat}{x:Str}{a:Addr}{kv:l8}
theorem c5.setF(B:c5 X M0 H0 γ α ρ σ H i a kv)(hN:X.N.Nodup)(hj:X.N[j]? =some x)(hx:Loc X.env.scope x)(hl:j < ρ.length)(hji:j≠i)(h:ef X (ρ.set i (.im (uU kv))) e ds)(hb: ∀d∈ds,D.bare 9 d)
  (k: ∀α v H',c5 X M0 H0 γ α (ρ.set j (.mu ds)) (σ.set j (some v)) H' i a kv->nE X sts En (σ.set j (some v)) H')
  (hs:cO e (some (.Name x pos')) pos.line X.env=pure false:=by rfl)(hf:X.fn x=true\/X.env.scope.names.lookup x=some .local:=by first | exact .inl rfl | exact .inr rfl | assumption):nE X (.Assign [.Name x pos'] e pos::sts) En σ H:=
 (dS uM gI).to ((pL hN hj hx g8 hs hf).to (h M0 H0 γ α σ H _ B.view fun l xs H1 H' s n s' y z=>by
  have D1:=B.next s
  obtain⟨ys,ho⟩:=D1.obj
  have hla:l≠a:=fun q=>by rw [q,ho]at n; cases n
  have ho':=s' _ _ ho
  obtain⟨bs,q1,q2,q3⟩:=D1.ex
  refine k _ _ H' ⟨D1.r.set_mu hl (by unfold eu; rw [if_neg hla]; exact n) (mL s') (jI hla y) (cE.map1 (fun d hd v=>Dn.hideB ho' 9 (hb d hd)) z),by rw [dR hji.symm]; exact D1.un,by rw [dR hji.symm]; exact D1.at_,D1.nd,bs,q1,s' _ _ q2, ?_⟩
  refine cE.map1 (fun d hd v=> ?_) (q3.same (mL s'))
  obtain⟨x,_,rfl⟩:=aQ.mp hd
  exact Dn.bare 9 (j_ 7 _)))
end
end Z
namespace K
open PySem L2 Z
theorem HS(t:ny):D.bare 9 (tD t):=fun d hd=>by
 have:d= .int t.1\/d= .int t.2.1\/d= .int t.2.2:=by simpa [tD]using hd
 rcases this with rfl | rfl | rfl <;> exact c6
def nb(f:c_)(rs:Rows):List Rows:=(lets f rs).map (mv rs)
def jD(f:c_)(g:Rows):l8:=Hr (nb f) 160000 [(g,0)] 0
structure FY(f:c_)(g rs:Rows):Prop where
 gd:good f rs=true
 of:Of g.flatten g.length rs
theorem vz{f:c_}{rs:Rows}{t:ny}(h:isLet f rs t=true):A4 f rs t/\good f (mv rs t)=true:=by
 unfold isLet at h
 rw [bA]at h
 exact⟨ll.mp h.1,h.2⟩
theorem zQ{f:c_}{rs:Rows}{t:ny}(ok:ql f):t∈lets f rs↔isLet f rs t=true:=DZ (by have:=ok.st; omega) (by have:=ok.lf; omega)
theorem nC{f:c_}{rs r:Rows}(ok:ql f):r∈nb f rs↔ ∃t,isLet f rs t=true/\mv rs t=r:=by
 unfold nb
 rw [aQ]
 exact⟨fun⟨t,h1,h2⟩=>⟨t,(zQ ok).mp h1,h2⟩,fun⟨t,h1,h2⟩=>⟨t,(zQ ok).mpr h1,h2⟩⟩
theorem Ef{f:c_}{g rs:Rows}(ok:ql f)(h:FY f g rs): ∀r∈nb f rs,FY f g r:=fun r hr=>by
 obtain⟨t,ht,rfl⟩:=(nC ok).mp hr
 obtain⟨hc,g2⟩:=vz ht
 exact⟨g2,(we (gB h.gd) hc).trans h.of.1,(nG rs t).trans h.of.2⟩
structure gg(f:c_)(qs:dZ)(g:Rows):Prop where
 s:fz f qs
 gd:good f g=true
 ie:g.flatten.length<=4
theorem gg.zZ{f:c_}{qs:dZ}{g:Rows}(h:gg f qs g):FY f g g:=⟨h.gd,cR _,rfl⟩
theorem gg.le{f:c_}{qs:dZ}{g:Rows}(h:gg f qs g){kv:l8}(nd:(kv.map (·.1)).Nodup)(hi: ∀x∈kv,FY f g x.1):kv.length<=160000:=
 I9 h.ie (by have:=gB h.gd; have:=h.s.ok.st; omega) nd fun x hx=>(hi x hx).of
structure LF(f:c_)(g:Rows):Prop where
 be:BE (nb f) g (jD f g)
 zZ: ∀x∈jD f g,FY f g x.1
 len:(jD f g).length<=160000
theorem gg.fin{f:c_}{qs:dZ}{g:Rows}(h:gg f qs g):LF f g:=by
 obtain⟨d,b,hp,hd⟩:=Br (nb:=nb f) (g:=g) (P:=FY f g) (N:=160000) (fun k hk k'=>Ef h.s.ok hk k') (fun kv nd hi=>h.le nd hi) 160000 [(g,0)] 0 BI.start (fun x hx=>by rw [aK.mp hx]; exact h.zZ) (bW _) (ay _)
 exact⟨b.fin hd,hp,h.le b.nd hp⟩
structure HC(f:c_)(g:Rows)(kv:l8)(d:Nat):Prop where
 b:BI (nb f) g kv d
 zZ: ∀x∈kv,FY f g x.1
 le:d<=kv.length
 end_:Hr (nb f) (160000 - d) kv d=jD f g
theorem HC.start{f:c_}{qs:dZ}{g:Rows}(h:gg f qs g):HC f g [(g,0)] 0:=⟨BI.start,fun x hx=>by rw [aK.mp hx]; exact h.zZ,bW _,rfl⟩
theorem HC.step{f:c_}{qs:dZ}{g:Rows}{kv:l8}{d:Nat}(h:gg f qs g)(w:HC f g kv d)(hd:d < kv.length):HC f g (nq (nb f) kv d) (d+1)/\d < 160000:=by
 have l:=h.le w.b.nd w.zZ
 have p:=(uN (nb:=nb f) kv d).length_le
 refine⟨⟨w.b.step hd,uF (P:=FY f g) (fun k hk k'=>Ef h.s.ok hk k') w.zZ,by omega, ?_⟩,by omega⟩
 have e:=w.end_
 rw [show 160000 - d=160000 - (d+1)+1 by omega,Hr,if_pos hd]at e
 exact e
theorem HC.done{f:c_}{g:Rows}{kv:l8}{d:Nat}(w:HC f g kv d)(hd: ¬d < kv.length):kv=jD f g:=by
 have e:=w.end_
 cases n:160000 - d with
 | zero=>rw [n]at e; exact e
 | succ n'=>rw [n,Hr,if_neg hd]at e; exact e
theorem E5{f:c_}{kv:l8}{d:Nat}{rs:Rows}{h:Int}(e:kv[d]? =some (rs,h)):nq (nb f) kv d=(nb f rs).foldl (visit h) kv:=by
 unfold nq
 rw [e]
theorem foldl_take_succ{α β:Type}(F:β->α->β)(b:β){l:List α}{n:Nat}{x:α}(h:l[n]? =some x):(l.take (n+1)).foldl F b=F ((l.take n).foldl F b) x:=by
 rw [ft,h,List.foldl_append]
 rfl
def intAt(i:Nat)(ρ:eZ):Nat:=match ρ[i]? with
 | some (Sl.im (.int z))=>160000 - z.toNat
 | _=>0
section
variable {P:av}{w:World}{K:Frag}{mg:Str->Option Value}{base:Heap}{CX:gM}{C:Addr}
theorem Bk:bQ ["floor","goal","above","reached","done","standing","lift","behind"] ["floor","goal"] (aL sg):=⟨rfl,rfl,rfl,by decide +kernel,rfl,by decide +kernel,by decide +kernel⟩
abbrev v_(P:av)(w:World)(K:Frag)(mg:Str->Option Value)(base:Heap)(CX:gM)(C:Addr):Prop:=
 jU P w K mg base CX 7 "heights_above" (fun i:c_×dZ×Rows=> [iG C i.1 i.2.1,rT i.2.2]) (fun i=>gg i.1 i.2.1 i.2.2) (fun i=> .ok (uU (jD i.1 i.2.2)))
theorem Eg{f:Addr}{fd:bg}(nx:NX CX)(B:Bm mg)(G1:zp P w K mg base CX C)(G2:vm P w K mg base CX)(F:ji K "heights_above" "heights_above" sg f fd)(hm:mg "heights_above"=some (.ref f))(hb:Binds K fd ["floor","goal"] []):v_ P w K mg base CX C:=by
 refine GW F Bk hm hb (fun i=>rfl) fun cdv A outer s H E i M0 hp hr=>⟨_,rfl,fun σ R=> ?_⟩
 obtain⟨fl,qs,g⟩:=i
 have ho:gg fl qs g:=hp
 have px:=Bk.nd
 have hu8:(A.deeper (o4 "heights_above" (aL sg) s.heap.objs.size f cdv)).units+8 < cLine:=by have:=xj hr; omega
 change Rep K M0 H [] (fun _=>0) [.im (iG C fl qs), .im (rT g), .un, .un, .un, .un, .un, .un] σ H at R
 change nE _ (bt sg) (ends K M0 H [] {N:=fun _=>uU (jD fl g)= .non,R:=fun d'=>d'=uU (jD fl g)}) σ H
 refine c5.start (i:=2) (rs:=g) (n:=0) hu8 R px rfl (.inl rfl) (g9 rfl) (nm 1 rfl rfl) az.int fun a H1 D1=> ?_
 change c5 _ _ _ _ _ [.im (iG C fl qs), .im (rT g), .un, .un, .un, .un, .un, .un] _ _ _ _ _ at D1
 refine c5.setF (j:=3) (ds:= [jQ g]) D1 px rfl (.inl rfl) (g9 rfl) (by decide) (ef.lst (bp.cons (nm 1 rfl rfl) bp.nil)) (fun d hd=>by rw [aK.mp hd]; exact j_ 7 _) fun α2 v2 H2 D2=> ?_
 refine c5.set (j:=4) (d:= .int 0) D2 px rfl (.inl rfl) (g9 rfl) (by decide) az.int c6 fun v3 H3 D3=> ?_
 refine(dS uM gI).to (c5.while (fun ρ kv=> ∃(d:Nat) (a5 a6 a7:Sl),ρ= [.im (iG C fl qs), .im (rT g), .un, .mu (kv.map fun x=>jQ x.1), .im (.int d),a5,a6,a7]/\HC fl g kv d) (fun ρ _=>intAt 4 ρ) cy D3 ⟨0,_,_,_,rfl,HC.start ho⟩ ?_)
 rintro α ρ σ kv ⟨d,a5,a6,a7,rfl,wk⟩
 refine⟨_,c8.cI .lt (nm 4 rfl rfl) (az.lenL rfl B.len (BF 3 rfl rfl)),fun h H D=> ?_,fun h H D=> ?_⟩
 ·rw [ae]at h
  have hd:d < kv.length:=by
   have:(d:Int) < kv.length:=by simpa using h
   omega
  obtain⟨wk2,hd2⟩:=wk.step ho hd
  obtain⟨rs,hh⟩: ∃rs:Rows, ∃h:Int,kv[d]? =some (rs,h):=⟨kv[d].1,kv[d].2,ah hd⟩
  obtain⟨ht,hk⟩:=hh
  rw [E5 hk]at wk2
  have hin:FY fl g rs:=wk.zZ _ (aT hk)
  have hgo:yy fl qs rs:=⟨ho.s,hin.gd⟩
  refine c5.set (j:=5) (d:=jQ rs) D px rfl (.inl rfl) (g9 rfl) (by decide) (az.ixL (BF 3 rfl rfl) (nm 4 rfl rfl) (by
   rw [rd rfl (by rw [ae]; exact hd),aV]
   rw [ah hd]at hk
   rw [aA hk])) (j_ 7 _) fun v4 H4 D4=> ?_
  refine(dS uM gI).to (c5.for (t:=6) (ds:=(lets fl rs).map tD) (fun n ρ kv'=> ∃a6 a7:Sl,ρ= [.im (iG C fl qs), .im (rT g), .un, .mu (kv'.map fun x=>jQ x.1), .im (.int d), .im (jQ rs),a6,a7]/\kv'=((nb fl rs).take n).foldl (visit ht) kv) cy rfl px rfl (.inl rfl) (by decide) D4
   (az.call G1 hr (bb nx) rfl (fl,qs,rs) (bp.cons (nm 0 rfl rfl) (bp.cons (nm 5 rfl rfl) bp.nil)) hgo rfl) (fun d hd=>by obtain⟨t,_,rfl⟩:=aQ.mp hd; exact HS t) ⟨_,_,rfl,rfl⟩ (fun n ρ kv' ⟨_,_,e,_⟩=>by rw [e]; exact g9 rfl) ?_ ?_)
  ·rintro γ' n dd α ρ σ H kv' hn ⟨b6,b7,rfl,ekv⟩ D
   rw [aj]at hn
   cases et:(lets fl rs)[n]? with
   | none=>rw [et]at hn; cases hn
   | some t=>
    rw [et]at hn
    cases hn
    have hl:=(zQ ho.s.ok).mp (aT et)
    obtain⟨hc,hg2⟩:=vz hl
    have en:(nb fl rs)[n]? =some (mv rs t):=by unfold nb; rw [aj,et]; rfl
    have ekv2:=foldl_take_succ (visit ht) kv en
    rw [<-ekv]at ekv2
    have hpre:kv <+:kv':=by rw [ekv]; exact nH ht _ kv
    have hin': ∀x∈kv',FY fl g x.1:=by
     rw [ekv]
     exact nz ht _ kv wk.zZ fun k hk=>Ef ho.s.ok hin k (gP hk)
    have hlen:=ho.le D.nd hin'
    have hrs:(rs,ht)∈kv':=hpre.subset (aT hk)
    refine c5.set (j:=7) (d:=jQ (mv rs t)) D px rfl (.inl rfl) (g9 rfl) (by decide) (az.call G2 (hr.mono (by decide)) (bb nx) rfl (rs,t) (bp.cons (nm 5 rfl rfl) (bp.cons (nm 6 rfl rfl) bp.nil)) (hc.mvOk (gB hgo.g) hgo.sm) rfl) (j_ 7 _) fun v5 H5 D5=> ?_
    refine(qM uM).to (c5.ite D5 (c8.notInDc (k:=mv rs t) hu8 D5.nd (nm 7 rfl rfl) (nm 2 rfl rfl)) (fun h2 H6 D6=> ?_) fun h2 H6 D6=> ?_)
    ·have hnew:mv rs t∉kv'.map (·.1):=by simpa using h2
     have ev:visit ht kv' (mv rs t)=kv' ++ [(mv rs t,ht+1)]:=if_neg hnew
     refine(dS uM gI).to (c5.put (rs:=mv rs t) (n:=ht+1) hu8 D6 rfl (.inl rfl) (nm 7 rfl rfl) (az.add (az.dget (k:=rs) (n:=ht) hu8 D6.nd hrs (nm 2 rfl rfl) (nm 5 rfl rfl)) az.int) hnew (by show kv'.length<=sizeLine; unfold sizeLine; omega) fun H7 D7=> ?_)
     refine(qM uM).to (c5.append (j:=3) (d:=jQ (mv rs t)) D7 rfl (.inl rfl) (by decide) rfl (by rw [ae]; omega) (nm 7 rfl rfl) (j_ 7 _) (fun H8 D8=>⟨_,_,_,D8, .im (tD t), .im (jQ (mv rs t)), ?_, ?_⟩) ⟨rfl,rfl,rfl,rfl⟩)
     ·rw [bD]; rfl
     ·rw [ekv2,ev]
    ·have hold:mv rs t∈kv'.map (·.1):=by simpa using h2
     have ev:visit ht kv' (mv rs t)=kv':=if_pos hold
     exact qH.to ⟨_,_,_,D6,_,_,rfl,by rw [ekv2,ev]⟩
  ·rintro α ρ σ H kv' ⟨b6,b7,rfl,ekv⟩ D
   rw [ae,show(lets fl rs).length=(nb fl rs).length from(ae ..).symm,eO]at ekv
   subst ekv
   refine c5.set (j:=4) (d:= .int ((d+1:Nat):Int)) D px rfl (.inl rfl) (g9 rfl) (by decide) (az.to (az.add (nm 4 rfl rfl) az.int) (by rw [Int.natCast_add]; rfl)) c6 fun v9 H9 D9=> ?_
   refine qH.to ⟨_,_,_,D9,⟨d+1,_,_,_,rfl,wk2⟩, ?_⟩
   show 160000 - ((d+1:Nat):Int).toNat < 160000 - (d:Int).toNat
   omega
 ·rw [ae]at h
  have hd: ¬d < kv.length:=by
   have: ¬(d:Int) < kv.length:=by simpa using h
   omega
  have e:=wk.done hd
  subst e
  exact WS.one (W1.ret (nm 2 rfl rfl) rfl) [] _ _ _ D.view
end
def K4(kv:l8)(rs:Rows):Int:=match kv.find? fun x=>decide (x.1=rs)with
 | some x=>x.2
 | none=>0
def LV(kv:l8)(rs:Rows)(t:ny):Bool:=decide (K4 kv (mv rs t) < K4 kv rs)
def low(f:c_)(g rs:Rows):List ny:=(lets f rs).filter (LV (jD f g) rs)
section
variable {P:av}{w:World}{K:Frag}{mg:Str->Option Value}{base:Heap}{CX:gM}{C CT:Addr}
theorem rW:bQ ["standing","crates","stack"] ["standing"] (aL mV):=⟨rfl,rfl,rfl,by decide +kernel,rfl,by decide +kernel,by decide +kernel⟩
abbrev pb(P:av)(w:World)(K:Frag)(mg:Str->Option Value)(base:Heap)(CX:gM):Prop:=
 jU P w K mg base CX 1 "crates_of" (fun rows:Rows=> [rT rows]) (fun rows=>rows.flatten.length < 64) (fun rows=> .ok (.lst ((yU rows.flatten).map .int)))
theorem xb{f:Addr}{fd:bg}(B:Bm mg)(F:ji K "crates_of" "crates_of" mV f fd)(hm:mg "crates_of"=some (.ref f))(hb:Binds K fd ["standing"] []):pb P w K mg base CX:=by
 refine fN F rW hm hb (fun i=>rfl) fun cdv A outer s H E rows M0 hp hr=>⟨_,rfl, ?_⟩
 have hp':rows.flatten.length < 64:=hp
 have px:=rW.nd
 have hlen:(bB true rows).length=rows.length:=ae ..
 change WS _ M0 H (bt mV) [.im (rT rows), .un, .un] _
 refine WS.cons (W1.setF (i:=1) px rfl (.inl rfl) (g9 rfl) (ef.lst bp.nil) ?_)
 refine WS.cons (W1.for (ds:=bB true rows) (fun i ρ=> ∃a,ρ= [.im (rT rows), .mu ((rows.take i).flatten.map .int),a]) cy rfl (ja.tup (nm 0 rfl rfl)) ⟨_,by rw [iT]; rfl⟩ ?_ ?_)
 ·rintro i d ρ hd ⟨a,rfl⟩
  obtain⟨r,hr',rfl⟩:=gJ hd
  have l1:=kf rows i
  have l2:=mK (aT hr')
  refine⟨_,yS.name (i:=2) px rfl (.inl rfl) (g9 rfl), ?_⟩
  refine WS.one (W1.extend (i:=1) (fs:=r.map .int) rfl (.inl rfl) rfl (nm 2 rfl rfl) rfl (by rw [ae,ae]; omega) ?_ ⟨rfl,rfl,rfl,rfl⟩)
  dsimp only
  rw [pv hr',bD]
  exact⟨_,rfl⟩
 rintro ρ ⟨a,rfl⟩
 rw [hlen,eO]
 exact WS.one (W1.ret (ef.toD (ef.sortedI rfl B.sorted (BF 1 rfl rfl) hp')) rfl)
theorem BN:bQ ["standing"] ["standing"] (aL lY):=⟨rfl,rfl,rfl,by decide +kernel,rfl,by decide +kernel,by decide +kernel⟩
abbrev oE(P:av)(w:World)(K:Frag)(mg:Str->Option Value)(base:Heap)(CT:Addr):Prop:=
 jU P w K mg base (f6 P w) 2 "refuse_too_many" (fun rows:Rows=> [rT rows]) (fun rows=>rows.flatten.length < 64) (fun rows=>if rows.flatten.length<=4 then .ok .non else .error CT)
theorem zM{f:Addr}{fd:bg}(er:tP "TooMany" CT mg base)(hmc: ∃t,mg "MOST_CRATES"=some (.int 4 t))(B:Bm mg)(G:pb P w K mg base (f6 P w))(F:ji K "refuse_too_many" "refuse_too_many" lY f fd)(hm:mg "refuse_too_many"=some (.ref f))(hb:Binds K fd ["standing"] []):oE P w K mg base CT:=by
 refine jr F BN hm hb (fun i=>rfl) fun cdv A outer s H E rows M0 hp hr=> ?_
 have hp':rows.flatten.length < 64:=hp
 have nx:NX (f6 P w):=i_
 by_cases hg:rows.flatten.length<=4
 ·refine .inl ⟨.non,if_pos hg, ?_⟩
  change WS _ M0 H (bt lY) [.im (rT rows)] {N:=fun _=>D.non= .non,R:=fun d'=>d'= .non}
  refine WS.one (W1.ite (c8.cI .gt (az.lenL rfl B.len (az.r (az.call G hr (bb nx) rfl rows (bp.cons (nm 0 rfl rfl) bp.nil) hp' rfl))) (pk hmc rfl)) (fun h=> ?_) fun h=>WS.nil rfl)
  rw [ae,mC]at h
  have:=of_decide_eq_true h
  omega
 ·refine .inr ⟨CT,if_neg hg, ?_⟩
  change gi _ [.im (rT rows)] E (bt lY) CT
  refine gi.here (s_.ite (t:=true) (c8.to (c8.cI .gt (az.lenL rfl B.len (az.r (az.call G hr (bb nx) rfl rows (bp.cons (nm 0 rfl rfl) bp.nil) hp' rfl))) (pk hmc rfl)) ?_) (fun _=>gi.here (s_.raise er rfl az.str)) fun h=>by cases h)
  rw [ae,mC]
  exact decide_eq_true (by omega)
end
theorem zo{P:av}{w:World}{K:Frag}{mg:Str->Option Value}{base:Heap}{C CS:Addr}(G:vT P w K mg base C CS):zp P w K mg base (f6 P w) C:=i3 G fun i h=>⟨⟨h.s,h.sm⟩,if_pos h.g⟩
def AL(kv:l8):D:= .lst ((fH ky (kv.map (·.1))).map jQ)
def pH(kv:l8):D:= .lst ((fH eD kv).map tV)
def IA(CS CT:Addr)(f:c_)(rows:Rows)(d:D):Except Addr D:=if good f rows then(if rows.flatten.length<=4 then .ok d else .error CT)else .error CS
theorem LF.one{f:c_}{g:Rows}(e:LF f g)(ok:ql f): ∀x∈jD f g,x.1.length=f.st.toNat:=fun x hx=>by have:=gB (e.zZ x hx).gd; omega
section
variable {P:av}{w:World}{K:Frag}{mg:Str->Option Value}{base:Heap}{C CS CO CT:Addr}
theorem AJ{fl:c_}{qs:dZ}{rows:Rows}(hS:fz fl qs)(hg:good fl rows=true):rows.flatten.length < 64:=by
 have:=(r9 hg hS.ok.st.2 hS.ok.ht.2).1
 omega
theorem ED:bQ ["floor","standing"] ["floor","standing"] (aL lx):=⟨rfl,rfl,rfl,by decide +kernel,rfl,by decide +kernel,by decide +kernel⟩
abbrev qD(P:av)(w:World)(K:Frag)(mg:Str->Option Value)(base:Heap)(C CS CT:Addr):Prop:=
 jU P w K mg base (f6 P w) 8 "come_to" (fun i:c_×dZ×Rows=> [iG C i.1 i.2.1,rT i.2.2]) (fun i=>fz i.1 i.2.1/\Small i.2.2) (fun i=>IA CS CT i.1 i.2.2 (AL (jD i.1 i.2.2)))
theorem Cd{f:Addr}{fd:bg}(B:Bm mg)(G1:kA P w K mg base C CS)(G2:oE P w K mg base CT)(G3:v_ P w K mg base (f6 P w) C)(F:ji K "come_to" "come_to" lx f fd)(hm:mg "come_to"=some (.ref f))(hb:Binds K fd ["floor","standing"] []):qD P w K mg base C CS CT:=by
 refine jr F ED hm hb (fun i=>rfl) fun cdv A outer s H E i M0 hp hr=> ?_
 obtain⟨fl,qs,rows⟩:=i
 obtain⟨hS,sm⟩:fz fl qs/\Small rows:=hp
 have nx:NX (f6 P w):=i_
 have hu8:(A.deeper (o4 "come_to" (aL lx) s.heap.objs.size f cdv)).units+8 < cLine:=by have:=xj hr; omega
 have st:2<=fl.st/\fl.st<=4:=hS.ok.st
 by_cases hg:good fl rows=true
 ·by_cases h4:rows.flatten.length<=4
  ·refine .inl ⟨_,(if_pos hg).trans (if_pos h4), ?_⟩
   have o:gg fl qs rows:=⟨hS,hg,h4⟩
   have e:=o.fin
   change WS _ M0 H (bt lx) [.im (iG C fl qs), .im (rT rows)] {N:=fun _=>AL (jD fl rows)= .non,R:=fun d'=>d'=AL (jD fl rows)}
   refine WS.cons (W1.expr (az.call G1 (hr.mono (by decide)) (bb nx) rfl (fl,qs,rows) (bp.cons (nm 0 rfl rfl) (bp.cons (nm 1 rfl rfl) bp.nil)) ⟨hS,sm⟩ (if_pos hg)) ?_)
   refine WS.cons (W1.expr (az.call G2 (hr.mono (by decide)) (bb nx) rfl rows (bp.cons (nm 1 rfl rfl) bp.nil) (AJ hS hg) (if_pos h4)) ?_)
   exact WS.one (W1.ret (ef.toD (ef.sortedDc (m:=fl.st.toNat) hr.hd hu8 e.be.nd (e.one hS.ok) (by omega) (by have:=e.len; unfold sizeLine; omega) rfl B.sorted (az.call G3 hr (bb nx) rfl (fl,qs,rows) (bp.cons (nm 0 rfl rfl) (bp.cons (nm 1 rfl rfl) bp.nil)) o rfl))) rfl)
  ·refine .inr ⟨CT,(if_pos hg).trans (if_neg h4), ?_⟩
   change gi _ [.im (iG C fl qs), .im (rT rows)] E (bt lx) CT
   refine gi.expr (az.call G1 (hr.mono (by decide)) (bb nx) rfl (fl,qs,rows) (bp.cons (nm 0 rfl rfl) (bp.cons (nm 1 rfl rfl) bp.nil)) ⟨hS,sm⟩ (if_pos hg)) ?_
   exact gi.here (s_.expr (FX.call (i:=rows) G2 (hr.mono (by decide)) k_ rfl (bp.cons (nm 1 rfl rfl) bp.nil) (AJ hS hg) (if_neg h4)))
 ·refine .inr ⟨CS,if_neg hg, ?_⟩
  change gi _ [.im (iG C fl qs), .im (rT rows)] E (bt lx) CS
  exact gi.here (s_.expr (FX.call (i:=(fl,qs,rows)) G1 (hr.mono (by decide)) k_ rfl (bp.cons (nm 0 rfl rfl) (bp.cons (nm 1 rfl rfl) bp.nil)) ⟨hS,sm⟩ (if_neg hg)))
theorem B8:bQ ["floor","goal"] ["floor","goal"] (aL jH):=⟨rfl,rfl,rfl,by decide +kernel,rfl,by decide +kernel,by decide +kernel⟩
abbrev oU(P:av)(w:World)(K:Frag)(mg:Str->Option Value)(base:Heap)(C CS CT:Addr):Prop:=
 jU P w K mg base (f6 P w) 8 "heights" (fun i:c_×dZ×Rows=> [iG C i.1 i.2.1,rT i.2.2]) (fun i=>fz i.1 i.2.1/\Small i.2.2) (fun i=>IA CS CT i.1 i.2.2 (pH (jD i.1 i.2.2)))
theorem zr{f:Addr}{fd:bg}(B:Bm mg)(G1:kA P w K mg base C CS)(G2:oE P w K mg base CT)(G3:v_ P w K mg base (f6 P w) C)(F:ji K "heights" "heights" jH f fd)(hm:mg "heights"=some (.ref f))(hb:Binds K fd ["floor","goal"] []):oU P w K mg base C CS CT:=by
 refine jr F B8 hm hb (fun i=>rfl) fun cdv A outer s H E i M0 hp hr=> ?_
 obtain⟨fl,qs,rows⟩:=i
 obtain⟨hS,sm⟩:fz fl qs/\Small rows:=hp
 have nx:NX (f6 P w):=i_
 have hu8:(A.deeper (o4 "heights" (aL jH) s.heap.objs.size f cdv)).units+8 < cLine:=by have:=xj hr; omega
 by_cases hg:good fl rows=true
 ·by_cases h4:rows.flatten.length<=4
  ·refine .inl ⟨_,(if_pos hg).trans (if_pos h4), ?_⟩
   have o:gg fl qs rows:=⟨hS,hg,h4⟩
   have e:=o.fin
   change WS _ M0 H (bt jH) [.im (iG C fl qs), .im (rT rows)] {N:=fun _=>pH (jD fl rows)= .non,R:=fun d'=>d'=pH (jD fl rows)}
   refine WS.cons (W1.expr (az.call G1 (hr.mono (by decide)) (bb nx) rfl (fl,qs,rows) (bp.cons (nm 0 rfl rfl) (bp.cons (nm 1 rfl rfl) bp.nil)) ⟨hS,sm⟩ (if_pos hg)) ?_)
   refine WS.cons (W1.expr (az.call G2 (hr.mono (by decide)) (bb nx) rfl rows (bp.cons (nm 1 rfl rfl) bp.nil) (AJ hS hg) (if_pos h4)) ?_)
   exact WS.one (W1.ret (ef.toD (ef.sortedIt hr.hd hu8 e.be.nd (by have:=e.len; unfold sizeLine; omega) rfl B.sorted (az.call G3 hr (bb nx) rfl (fl,qs,rows) (bp.cons (nm 0 rfl rfl) (bp.cons (nm 1 rfl rfl) bp.nil)) o rfl))) rfl)
  ·refine .inr ⟨CT,(if_pos hg).trans (if_neg h4), ?_⟩
   change gi _ [.im (iG C fl qs), .im (rT rows)] E (bt jH) CT
   refine gi.expr (az.call G1 (hr.mono (by decide)) (bb nx) rfl (fl,qs,rows) (bp.cons (nm 0 rfl rfl) (bp.cons (nm 1 rfl rfl) bp.nil)) ⟨hS,sm⟩ (if_pos hg)) ?_
   exact gi.here (s_.expr (FX.call (i:=rows) G2 (hr.mono (by decide)) k_ rfl (bp.cons (nm 1 rfl rfl) bp.nil) (AJ hS hg) (if_neg h4)))
 ·refine .inr ⟨CS,if_neg hg, ?_⟩
  change gi _ [.im (iG C fl qs), .im (rT rows)] E (bt jH) CS
  exact gi.here (s_.expr (FX.call (i:=(fl,qs,rows)) G1 (hr.mono (by decide)) k_ rfl (bp.cons (nm 0 rfl rfl) (bp.cons (nm 1 rfl rfl) bp.nil)) ⟨hS,sm⟩ (if_neg hg)))
end
def dH(ns:List Int)(m:Nat):Bool:=(decide (ns.length=m)&&ns.all fun n=>decide (0<=n)&&decide (n<=(m:Int) - 1))&&decide ns.Nodup
structure Once(ns:List Int)(m:Nat):Prop where
 len:ns.length=m
 xR: ∀n∈ns,0<=n/\n<=(m:Int) - 1
 nd:ns.Nodup
theorem kz{ns:List Int}{m:Nat}:dH ns m=true↔Once ns m:=by
 unfold dH
 rw [bA,bA,decide_eq_true_iff,decide_eq_true_iff,a8]
 constructor
 ·rintro⟨⟨a,b⟩,c⟩
  exact⟨a,fun n hn=>by simpa using b n hn,c⟩
 ·rintro⟨a,b,c⟩
  exact⟨⟨a,fun n hn=>by simpa using b n hn⟩,c⟩
def gL(ns:List Int)(c:Int):Int:=ns.getD c.toNat 0
section
variable {P:av}{w:World}{K:Frag}{mg:Str->Option Value}{base:Heap}{CX:gM}{C CN CO:Addr}
theorem Ji:bQ ["numbers","many"] ["numbers","many"] (aL Bt):=⟨rfl,rfl,rfl,by decide +kernel,rfl,by decide +kernel,by decide +kernel⟩
abbrev Bl(P:av)(w:World)(K:Frag)(mg:Str->Option Value)(base:Heap)(CX:gM):Prop:=
 jU P w K mg base CX 2 "has_each_once" (fun i:List Int×Nat=> [.lst (i.1.map .int), .int i.2]) (fun i=>i.1.length<=1000) (fun i=> .ok (.bl (dH i.1 i.2)))
theorem HR{f:Addr}{fd:bg}(nx:NX CX)(B:Bm mg)(G:lu P w K mg base CX)(F:ji K "has_each_once" "has_each_once" Bt f fd)(hm:mg "has_each_once"=some (.ref f))(hb:Binds K fd ["numbers","many"] []):Bl P w K mg base CX:=by
 refine fN F Ji hm hb (fun i=>rfl) fun cdv A outer s H E i M0 hp hr=>⟨_,rfl, ?_⟩
 obtain⟨ns,m⟩:=i
 have hp':ns.length<=1000:=hp
 change WS _ M0 H (bt Bt) [.im (.lst (ns.map .int)), .im (.int m)] {N:=fun _=>D.bl (dH ns m)= .non,R:=fun d'=>d'= .bl (dH ns m)}
 refine WS.cons (W1.ite (i6.t (i6.or (c8.not (c8.val (az.yb rfl B.yb rfl B.list (by decide +kernel) (.inr (.inr (.inr (.inr rfl)))) (az.r (nm 0 rfl rfl)) rfl))) fun _=>i6.or1 (c8.cI .ne (az.lenL rfl B.len (az.r (nm 0 rfl rfl))) (nm 1 rfl rfl)))) (fun h=> ?_) fun h=>WS.nil ?_)
 ·rw [show tf "list" (D.lst (ns.map D.int))=true from rfl,ae]at h
  have h': ¬ns.length=m:=by
   intro z
   rw [z]at h
   simp at h
  refine WS.one (W1.ret az.bl ?_)
  show D.bl false=_
  unfold dH
  rw [decide_eq_false h']
  rfl
 ·rw [show tf "list" (D.lst (ns.map D.int))=true from rfl,ae]at h
  have h':ns.length=m:=by
   have:(ns.length:Int)=m:=by simpa using h
   omega
  refine WS.cons (W1.ite (c8.not (c8.val (az.all (bs:=ns.map fun n=>decide (0<=n)&&decide (n<=(m:Int) - 1)) rfl rfl B.all (az.r (ef.toD (ef.comp (ds:=ns.map D.int) (es:=(ns.map fun n=>decide (0<=n)&&decide (n<=(m:Int) - 1)).map D.bl) (cs:= [.int m]) (N':= ["number","many"]) (js:= [1])
   (dE.cap1 (pre:= [(".0", .local),("number", .local),("is_within", .globalImplicit)]) (post:= []) (rn:= [(".0", .local),("number", .local),("is_within", .globalImplicit),("many", .cell)]) rfl (by decide +kernel) (by decide +kernel) rfl (by decide +kernel) rfl (by decide +kernel) rfl rfl rfl rfl rfl (by decide +kernel)) rfl (by decide +kernel)
   (ja.list (nm 0 rfl rfl)) (si rfl) (by simp) (by rw [ae]; omega) ?_)))))) (fun h=> ?_) fun h=>WS.nil ?_)
  ·intro C s₀ H₀ fp pins i d e h1 h2
   rw [aj]at h1
   rw [aj,aj]at h2
   cases ei:ns[i]? with
   | none=>rw [ei]at h1; cases h1
   | some v=>
    rw [ei]at h1 h2
    cases h1
    cases h2
    exact az.call G hr (bb nx) rfl (v,0,(m:Int) - 1) (bp.cons (nm 0 rfl rfl) (bp.cons az.int (bp.cons (az.sub (nm 1 rfl rfl) az.int) bp.nil))) trivial rfl
  ·refine WS.one (W1.ret az.bl ?_)
   show D.bl false=_
   rw [jY]at h
   have h'':(ns.all fun n=>decide (0<=n)&&decide (n<=(m:Int) - 1))=false:=by
    rw [fu]at h
    exact h
   unfold dH
   rw [h'',iR]
   rfl
  ·refine WS.one (W1.ret (az.cI .eq (az.lenSet rfl rfl B.len rfl B.set (az.r (nm 0 rfl rfl)) (by omega)) (nm 1 rfl rfl)) ?_)
   rw [jY]at h
   have h'':(ns.all fun n=>decide (0<=n)&&decide (n<=(m:Int) - 1))=true:=by
    rw [Bool.not_eq_false']at h
    exact h
   show D.bl (decide ((dN ns:Int)=(m:Int)))=_
   unfold dH
   rw [h'',decide_eq_true h',fF,fF]
   congr 1
   apply decide_eq_decide.mpr
   rw [<-A7,h']
   omega
theorem HI:bQ ["names"] ["names"] (aL rF):=⟨rfl,rfl,rfl,by decide +kernel,rfl,by decide +kernel,by decide +kernel⟩
abbrev rq(P:av)(w:World)(K:Frag)(mg:Str->Option Value)(base:Heap)(CN:Addr):Prop:=
 jU P w K mg base (f6 P w) 3 "refuse_unless_names" (fun ns:List Int=> [.lst (ns.map .int)]) (fun ns=>ns.length<=1000) (fun ns=>if dH ns 10 then .ok .non else .error CN)
theorem Ej{f:Addr}{fd:bg}(ten: ∃t,mg "CRATE_COUNT"=some (.int 10 t))(er:tP "NoNames" CN mg base)(G:Bl P w K mg base (f6 P w))(F:ji K "refuse_unless_names" "refuse_unless_names" rF f fd)(hm:mg "refuse_unless_names"=some (.ref f))(hb:Binds K fd ["names"] []):rq P w K mg base CN:=by
 refine jr F HI hm hb (fun i=>rfl) fun cdv A outer s H E ns M0 hp hr=> ?_
 have hp':ns.length<=1000:=hp
 have nx:NX (f6 P w):=i_
 by_cases hg:dH ns 10=true
 ·refine .inl ⟨.non,if_pos hg, ?_⟩
  change WS _ M0 H (bt rF) [.im (.lst (ns.map .int))] {N:=fun _=>D.non= .non,R:=fun d'=>d'= .non}
  refine WS.one (W1.ite (c8.not (c8.val (az.call G hr (bb nx) rfl (ns,10) (bp.cons (nm 0 rfl rfl) (bp.cons (pk ten rfl) bp.nil)) hp' rfl))) (fun h=> ?_) fun h=>WS.nil rfl)
  rw [hg]at h
  cases h
 ·refine .inr ⟨CN,if_neg hg, ?_⟩
  change gi _ [.im (.lst (ns.map .int))] E (bt rF) CN
  refine gi.here (s_.ite (t:=true) (c8.to (c8.not (c8.val (az.call G hr (bb nx) rfl (ns,10) (bp.cons (nm 0 rfl rfl) (bp.cons (pk ten rfl) bp.nil)) hp' rfl))) (by simp [hg])) (fun _=>gi.here (s_.raise er rfl az.str)) fun h=>by cases h)
theorem zO:bQ ["stack","names"] ["stack","names"] (aL mM):=⟨rfl,rfl,rfl,by decide +kernel,rfl,by decide +kernel,by decide +kernel⟩
abbrev pM(P:av)(w:World)(K:Frag)(mg:Str->Option Value)(base:Heap)(CX:gM):Prop:=
 jU P w K mg base CX 1 "stack_renamed" (fun i:List Int×List Int=> [.tup (i.1.map .int), .lst (i.2.map .int)]) (fun i=>i.1.length<=1000/\ ∀c∈i.1,0<=c/\c < i.2.length) (fun i=> .ok (.tup ((i.1.map (gL i.2)).map .int)))
theorem Em{ns:List Int}{c:Int}(h:0<=c/\c < ns.length):uw (ns.map D.int) c=some (.int (gL ns c)):=by
 have:c=(c.toNat:Int):=by omega
 exact oY (k:=c.toNat) (by omega) this
theorem wZ{f:Addr}{fd:bg}(B:Bm mg)(F:ji K "stack_renamed" "stack_renamed" mM f fd)(hm:mg "stack_renamed"=some (.ref f))(hb:Binds K fd ["stack","names"] []):pM P w K mg base CX:=by
 refine fN F zO hm hb (fun i=>rfl) fun cdv A outer s H E i M0 hp hr=>⟨_,rfl, ?_⟩
 obtain⟨cs,ns⟩:=i
 obtain⟨hl,hd⟩:cs.length<=1000/\ ∀c∈cs,0<=c/\c < ns.length:=hp
 change WS _ M0 H (bt mM) [.im (.tup (cs.map .int)), .im (.lst (ns.map .int))] {N:=fun _=>D.tup ((cs.map (gL ns)).map .int)= .non,R:=fun d'=>d'= .tup ((cs.map (gL ns)).map .int)}
 refine WS.one (W1.ret (az.tupleL rfl B.tuple (az.r (ef.toD (ef.comp (ds:=cs.map D.int) (es:=(cs.map (gL ns)).map D.int) (cs:= [.lst (ns.map .int)]) (N':= ["crate","names"]) (js:= [1])
   (dE.cap1 (pre:= [(".0", .local),("crate", .local)]) (post:= []) (rn:= [(".0", .local),("crate", .local),("names", .cell)]) rfl (by decide +kernel) (by decide +kernel) rfl (by decide +kernel) rfl (by decide +kernel) rfl rfl rfl rfl rfl (by decide +kernel)) rfl (by decide +kernel)
   (ja.tup (nm 0 rfl rfl)) (si rfl) (by simp) (by rw [ae]; omega) ?_)))) rfl)
 intro C s₀ H₀ fp pins i d e h1 h2
 rw [aj]at h1
 rw [aj,aj]at h2
 cases ei:cs[i]? with
 | none=>rw [ei]at h1; cases h1
 | some v=>
  rw [ei]at h1 h2
  cases h1
  cases h2
  exact az.ixL (az.r (nm 1 rfl rfl)) (nm 0 rfl rfl) (Em (hd v (aT ei)))
theorem BO:bQ ["standing","names"] ["standing","names"] (aL l_):=⟨rfl,rfl,rfl,by decide +kernel,rfl,by decide +kernel,by decide +kernel⟩
def lX(ns:List Int)(rows:List (List Int)):List (List Int):=rows.map fun r=>r.map (gL ns)
abbrev ow(P:av)(w:World)(K:Frag)(mg:Str->Option Value)(base:Heap)(CN:Addr):Prop:=
 jU P w K mg base (f6 P w) 4 "renamed" (fun i:List (List Int)×List Int=> [.tup (bB true i.1), .lst (i.2.map .int)]) (fun i=>i.2.length<=1000/\i.1.length<=1000/\ ∀r∈i.1,r.length<=1000/\ ∀c∈r,0<=c/\c<=9) (fun i=>if dH i.2 10 then .ok (.tup (bB true (lX i.2 i.1)))else .error CN)
theorem se(G:rq P w K mg base CN):jU P w K mg base (f6 P w) 3 "refuse_unless_names" (fun ns:List Int=> [.lst (ns.map .int)]) (fun ns=>ns.length<=1000/\dH ns 10=true) (fun ns=> .ok .non):=i3 G fun i h=>⟨h.1,if_pos h.2⟩
theorem zx{f:Addr}{fd:bg}(B:Bm mg)(G1:rq P w K mg base CN)(G2:pM P w K mg base (f6 P w))(F:ji K "renamed" "renamed" l_ f fd)(hm:mg "renamed"=some (.ref f))(hb:Binds K fd ["standing","names"] []):ow P w K mg base CN:=by
 refine jr F BO hm hb (fun i=>rfl) fun cdv A outer s H E i M0 hp hr=> ?_
 obtain⟨rows,ns⟩:=i
 obtain⟨hl,hrl,hd⟩:ns.length<=1000/\rows.length<=1000/\ ∀r∈rows,r.length<=1000/\ ∀c∈r,0<=c/\c<=9:=hp
 have nx:NX (f6 P w):=i_
 by_cases hg:dH ns 10=true
 ·refine .inl ⟨_,if_pos hg, ?_⟩
  have on:=kz.mp hg
  change WS _ M0 H (bt l_) [.im (.tup (bB true rows)), .im (.lst (ns.map .int))] {N:=fun _=>D.tup (bB true (lX ns rows))= .non,R:=fun d'=>d'= .tup (bB true (lX ns rows))}
  refine WS.cons (W1.expr (az.call (se G1) hr (bb nx) rfl ns (bp.cons (nm 1 rfl rfl) bp.nil) ⟨hl,hg⟩ rfl) ?_)
  refine WS.one (W1.ret (az.tupleL rfl B.tuple (az.r (ef.toD (ef.comp (ds:=bB true rows) (es:=bB true (lX ns rows)) (cs:= [.lst (ns.map .int)]) (N':= ["stack","names"]) (js:= [1])
   (dE.cap1 (pre:= [(".0", .local),("stack", .local),("stack_renamed", .globalImplicit)]) (post:= []) (rn:= [(".0", .local),("stack", .local),("stack_renamed", .globalImplicit),("names", .cell)]) rfl (by decide +kernel) (by decide +kernel) rfl (by decide +kernel) rfl (by decide +kernel) rfl rfl rfl rfl rfl (by decide +kernel)) rfl (by decide +kernel)
   (ja.tup (nm 0 rfl rfl)) (si rfl) (by rw [fA,fA]; exact ae ..) (by rw [fA]; omega) ?_)))) rfl)
  intro C s₀ H₀ fp pins i d e h1 h2
  obtain⟨r,hr1,rfl⟩:=gJ h1
  obtain⟨r2,hr2,rfl⟩:=gJ h2
  unfold lX at hr2
  rw [aj,hr1]at hr2
  cases hr2
  have hm:=hd r (aT hr1)
  exact az.call G2 (hr.mono (by decide)) (bb nx) rfl (r,ns) (bp.cons (nm 0 rfl rfl) (bp.cons (nm 1 rfl rfl) bp.nil)) ⟨hm.1,fun c hc=>by have:=hm.2 c hc; rw [on.len]; omega⟩ rfl
 ·refine .inr ⟨CN,if_neg hg, ?_⟩
  change gi _ [.im (.tup (bB true rows)), .im (.lst (ns.map .int))] E (bt l_) CN
  exact gi.here (s_.expr (FX.call (i:=ns) G1 hr k_ rfl (bp.cons (nm 1 rfl rfl) bp.nil) hl (if_neg hg)))
end
def nt(rows:List (List Int))(order:List Int):Nat->List (List Int)
 | 0=>rows
 | i+1=>(nt rows order i).set (order.getD i 0).toNat (rows.getD i [])
theorem mI(rows:List (List Int))(order:List Int): ∀i,(nt rows order i).length=rows.length
 | 0=>rfl
 | i+1=>by rw [nt,bo,mI rows order i]
def jT(rows:List (List Int))(order:List Int):List (List Int):=nt rows order rows.length
theorem Dl{order:List Int}{rows:List (List Int)}{i:Nat}{d:D}(h:(pN (order.map .int) (bB true rows))[i]? =some d):i < order.length/\i < rows.length/\d= .tup [.int (order.getD i 0), .tup ((rows.getD i []).map .int)]:=by
 unfold pN bB at h
 rw [List.zip_map,bV,aj]at h
 cases e:(order.zip rows)[i]? with
 | none=>rw [e]at h; cases h
 | some p=>
  rw [e]at h
  obtain⟨e1,e2⟩:=wR.mp e
  have l1:=(aD.mp e1).1
  have l2:=(aD.mp e2).1
  refine⟨l1,l2, ?_⟩
  rw [ao,e1,ao,e2]
  exact(aA h).symm
theorem Fq{order:List Int}{rows:List (List Int)}(h:order.length=rows.length):(pN (order.map .int) (bB true rows)).length=rows.length:=by
 unfold pN bB
 rw [ae,bK,ae,ae,h,Nat.min_self]
section
variable {P:av}{w:World}{K:Frag}{mg:Str->Option Value}{base:Heap}{CX:gM}{C CN CO:Addr}
theorem qd:bQ ["standing","order","stacks","place","stack"] ["standing","order"] (aL jG):=⟨rfl,rfl,rfl,by decide +kernel,rfl,by decide +kernel,by decide +kernel⟩
abbrev lB(P:av)(w:World)(K:Frag)(mg:Str->Option Value)(base:Heap)(CO:Addr):Prop:=
 jU P w K mg base (f6 P w) 3 "reordered" (fun i:List (List Int)×List Int=> [.tup (bB true i.1), .lst (i.2.map .int)]) (fun i=>i.2.length<=1000/\i.1.length<=1000) (fun i=>if dH i.2 i.1.length then .ok (.tup (bB true (jT i.1 i.2)))else .error CO)
theorem vN{f:Addr}{fd:bg}(B:Bm mg)(er:tP "NoOrder" CO mg base)(G1:Bl P w K mg base (f6 P w))(F:ji K "reordered" "reordered" jG f fd)(hm:mg "reordered"=some (.ref f))(hb:Binds K fd ["standing","order"] []):lB P w K mg base CO:=by
 refine jr F qd hm hb (fun i=>rfl) fun cdv A outer s H E i M0 hp hr=> ?_
 obtain⟨rows,os⟩:=i
 obtain⟨hl,hrl⟩:os.length<=1000/\rows.length<=1000:=hp
 have nx:NX (f6 P w):=i_
 have px:=qd.nd
 by_cases hg:dH os rows.length=true
 ·refine .inl ⟨_,if_pos hg, ?_⟩
  have on:=kz.mp hg
  change WS _ M0 H (bt jG) [.im (.tup (bB true rows)), .im (.lst (os.map .int)), .un, .un, .un] {N:=fun _=>D.tup (bB true (jT rows os))= .non,R:=fun d'=>d'= .tup (bB true (jT rows os))}
  refine WS.cons (W1.ite (c8.not (c8.val (az.call G1 hr (bb nx) rfl (os,rows.length) (bp.cons (nm 1 rfl rfl) (bp.cons (az.to (az.lenT rfl B.len (nm 0 rfl rfl)) (by rw [fA])) bp.nil)) hl rfl))) (fun h=> ?_) fun h=>WS.nil ?_)
  ·rw [hg]at h
   cases h
  refine WS.cons (W1.setF (i:=2) px rfl (.inl rfl) (g9 rfl) (ef.listT rfl B.list (nm 0 rfl rfl)) ?_)
  refine WS.cons (W1.for (ds:=pN (os.map .int) (bB true rows)) (fun i ρ=> ∃a b,ρ= [.im (.tup (bB true rows)), .im (.lst (os.map .int)), .mu (bB true (nt rows os i)),a,b]) cy rfl
   (ja.zipLT rfl B.zip (nm 1 rfl rfl) (nm 0 rfl rfl)) ⟨_,_,rfl⟩ ?_ ?_)
  ·rintro i d ρ hd ⟨a,b,rfl⟩
   obtain⟨l1,l2,rfl⟩:=Dl hd
   have hmem:os.getD i 0∈os:=by rw [ao,ah l1]; exact aR l1
   have rg:=on.xR _ hmem
   refine⟨_,yS.pair (i:=3) (j:=4) rfl px rfl (.inl rfl) (g9 rfl) rfl (.inl rfl) (g9 rfl), ?_⟩
   refine WS.one (W1.setIx (i:=2) (n:=(os.getD i 0).toNat) rfl (.inl rfl) rfl (nm 4 rfl rfl) (nm 3 rfl rfl) (by omega) (by rw [fA,mI]; omega) ?_)
   have e:bB true (nt rows os (i+1))=(bB true (nt rows os i)).set (os.getD i 0).toNat (.tup ((rows.getD i []).map .int)):=by
    rw [nt,uD]
    rfl
   dsimp only
   rw [e]
   exact⟨_,_,rfl⟩
  ·rintro ρ ⟨a,b,rfl⟩
   rw [Fq on.len]
   exact WS.freeze (i:=2) rfl (WS.one (W1.ret (az.tupleL rfl B.tuple (az.r (nm 2 rfl rfl))) rfl))
 ·refine .inr ⟨CO,if_neg hg, ?_⟩
  change gi _ [.im (.tup (bB true rows)), .im (.lst (os.map .int)), .un, .un, .un] E (bt jG) CO
  refine gi.here (s_.ite (t:=true) (c8.to (c8.not (c8.val (az.call G1 hr (bb nx) rfl (os,rows.length) (bp.cons (nm 1 rfl rfl) (bp.cons (az.to (az.lenT rfl B.len (nm 0 rfl rfl)) (by rw [fA])) bp.nil)) hl rfl))) (by simp [hg])) (fun _=>gi.here (s_.raise er rfl az.str)) fun h=>by cases h)
def qi(ns:List Int)(p:Int×Int):Int×Int:=(gL ns p.1,gL ns p.2)
def jo(ns:List Int)(f:c_)(qs:dZ):c_:=⟨f.st,f.ht,f.lf,qs.map (qi ns)⟩
theorem mJ{p:Int×Int}:jj p=true↔(0<=p.1/\p.1<=9)/\(0<=p.2/\p.2<=9)/\p.1≠p.2:=by
 unfold jj gK
 simp
theorem z8{ns:List Int}(on:Once ns 10){c:Int}(h:0<=c/\c<=9):0<=gL ns c/\gL ns c<=9:=by
 have hl:c.toNat < ns.length:=by rw [on.len]; omega
 have hm:gL ns c∈ns:=by
  unfold gL
  rw [ao,ah hl]
  exact aR hl
 have:=on.xR _ hm
 omega
theorem q_{ns:List Int}(on:Once ns 10){c d:Int}(h:0<=c/\c<=9)(h':0<=d/\d<=9)(e:gL ns c=gL ns d):c=d:=by
 have hl:c.toNat < ns.length:=by rw [on.len]; omega
 have hl':d.toNat < ns.length:=by rw [on.len]; omega
 unfold gL at e
 rw [ao,ah hl,ao,ah hl']at e
 have:c.toNat=d.toNat:=(gW on.nd).mp e
 omega
theorem Ax{ns:List Int}{f:c_}{qs:dZ}(on:Once ns 10)(h:ql ⟨f.st,f.ht,f.lf,qs⟩):ql (jo ns f qs):=by
 refine⟨h.st,h.ht,h.lf,by have:=h.ie; show(qs.map _).length<=4; rw [ae]; exact this, ?_⟩
 show(qs.map (qi ns)).all jj=true
 rw [jY,a8]
 intro p hp
 obtain⟨a,b,c⟩:=mJ.mp (a8.mp h.ok p hp)
 exact mJ.mpr ⟨z8 on a,z8 on b,fun z=>c (q_ on a b z)⟩
theorem rA:bQ ["floor","names","bans"] ["floor","names"] (aL jz):=⟨rfl,rfl,rfl,by decide +kernel,rfl,by decide +kernel,by decide +kernel⟩
abbrev mE(P:av)(w:World)(K:Frag)(mg:Str->Option Value)(base:Heap)(C CN:Addr):Prop:=
 jU P w K mg base (f6 P w) 7 "floor_renamed" (fun i:c_×dZ×List Int=> [iG C i.1 i.2.1, .lst (i.2.2.map .int)]) (fun i=>i.2.2.length<=1000/\ql ⟨i.1.st,i.1.ht,i.1.lf,i.2.1⟩) (fun i=>if dH i.2.2 10 then .ok (iG C (jo i.2.2 i.1 i.2.1) (gC (i.2.1.map (qi i.2.2))))else .error CN)
theorem xn{f:Addr}{fd:bg}(B:Bm mg)(L:Fl P w K mg base (f6 P w) C)(GM:AA P w K mg base (f6 P w) C)(G1:rq P w K mg base CN)(F:ji K "floor_renamed" "floor_renamed" jz f fd)(hm:mg "floor_renamed"=some (.ref f))(hb:Binds K fd ["floor","names"] []):mE P w K mg base C CN:=by
 refine jr F rA hm hb (fun i=>rfl) fun cdv A outer s H E i M0 hp hr=> ?_
 obtain⟨fl,qs,ns⟩:=i
 obtain⟨hl,dW⟩:ns.length<=1000/\ql ⟨fl.st,fl.ht,fl.lf,qs⟩:=hp
 have ie:qs.length<=4:=dW.ie
 have nx:NX (f6 P w):=i_
 have px:=rA.nd
 have hr1:=hr.mono (show 1<=6 by decide)
 by_cases hg:dH ns 10=true
 ·refine .inl ⟨_,if_pos hg, ?_⟩
  have on:=kz.mp hg
  change WS _ M0 H (bt jz) [.im (iG C fl qs), .im (.lst (ns.map .int)), .un] {N:=fun _=>iG C (jo ns fl qs) (gC (qs.map (qi ns)))= .non,R:=fun d'=>d'=iG C (jo ns fl qs) (gC (qs.map (qi ns)))}
  refine WS.cons (W1.expr (az.call (se G1) (hr.mono (by decide)) (bb nx) rfl ns (bp.cons (nm 1 rfl rfl) bp.nil) ⟨hl,hg⟩ rfl) ?_)
  refine WS.cons (W1.comp2 (i:=2) (ds:=qs.map fun p=>(D.int p.1,D.int p.2)) (es:=(qs.map (qi ns)).map pD) (cs:= [.lst (ns.map .int)]) (N':= ["one","other","names"]) (js:= [1])
   (iw.cap1 (pre:= [(".0", .local),("one", .local),("other", .local)]) (post:= []) (rn:= [(".0", .local),("one", .local),("other", .local),("names", .cell)]) rfl (by decide +kernel) (by decide +kernel) rfl (by decide +kernel) rfl (by decide +kernel) rfl rfl rfl rfl rfl rfl (by decide +kernel)) rfl (by decide +kernel)
   (ja.to (ja.list (az.meth0 L.t.cl L.bs hr1 (bb nx) (fl,qs) (nm 0 rfl rfl) rfl trivial rfl)) (by rw [bV]; rfl)) (si rfl) (by simp) (by rw [ae]; omega) ?_ px rfl rfl (g9 rfl) ?_)
  ·intro C' s₀ H₀ fp pins i d e h1 h2
   rw [aj]at h1
   rw [aj,aj]at h2
   cases ei:qs[i]? with
   | none=>rw [ei]at h1; cases h1
   | some p=>
    rw [ei]at h1 h2
    cases h1
    cases h2
    obtain⟨a,b,c⟩:=mJ.mp (a8.mp dW.ok p (aT ei))
    exact az.tup (bp.cons (az.ixL (az.r (nm 2 rfl rfl)) (nm 0 rfl rfl) (Em (by rw [on.len]; omega))) (bp.cons (az.ixL (az.r (nm 2 rfl rfl)) (nm 1 rfl rfl) (Em (by rw [on.len]; omega))) bp.nil))
  ·refine WS.freeze (i:=2) rfl (WS.one (W1.ret (d:=iG C (jo ns fl qs) (gC (qs.map (qi ns)))) (DP.exact (R:=fun d=> ∃ds,d= .ins C FN ds/\ ∃qs':dZ,ds=su (jo ns fl qs) qs'/\qs'=gC (jo ns fl qs).eE) (DP.make (X:=(yV P w K mg base ["floor","names","bans"] "floor_renamed" (aL jz) f cdv A outer s H E).nox) GM hr (bb nx) rfl (jo ns fl qs) (bp.cons (az.meth0 L.t.cl L.st hr1 (bb nx) (fl,qs) (nm 0 rfl rfl) rfl trivial rfl) (bp.cons (az.meth0 L.t.cl L.ht hr1 (bb nx) (fl,qs) (nm 0 rfl rfl) rfl trivial rfl) (bp.cons (az.meth0 L.t.cl L.lf hr1 (bb nx) (fl,qs) (nm 0 rfl rfl) rfl trivial rfl) (bp.cons (nm 2 rfl rfl) bp.nil)))) (Ax on dW)) ?_) rfl))
   rintro d' ⟨ds,rfl,qs',rfl,rfl⟩
   rfl
 ·refine .inr ⟨CN,if_neg hg, ?_⟩
  change gi _ [.im (iG C fl qs), .im (.lst (ns.map .int)), .un] E (bt jz) CN
  exact gi.here (s_.expr (FX.call (i:=ns) G1 (hr.mono (by decide)) k_ rfl (bp.cons (nm 1 rfl rfl) bp.nil) hl (if_neg hg)))
end
end K
namespace Z
section
variable {α:Type} [DecidableEq α]{nb:α->List α}{g:α}{kv kv':List (α×Int)}
inductive xw(nb:α->List α)(g:α):Nat->α->Prop
 | zero:xw nb g 0 g
 | step {n:Nat} {k k':α}:xw nb g n k->k'∈nb k->xw nb g (n+1) k'
theorem BE.walk(b:BE nb g kv): ∀(n:Nat) {k:α},(k,(n:Int))∈kv->xw nb g n k
 | n,k,h=>by
  rcases b.par _ _ h with⟨rfl,h0⟩ | ⟨k',h',hk,hm,e⟩
  ·have:n=0:=by omega
   subst this
   exact .zero
  ·have:=b.nn _ _ hk
   obtain⟨m,rfl⟩: ∃m,n=m+1:=⟨n - 1,by omega⟩
   have e2:h'=(m:Int):=by omega
   subst e2
   exact .step (BE.walk b m hk) hm
theorem BE.of_walk(b:BE nb g kv){n:Nat}{k:α}(w:xw nb g n k): ∃h,(k,h)∈kv/\h<=(n:Int):=by
 induction w with
 | zero=>exact⟨0,b.goal,tx _⟩
 | step w hm ih=>
  obtain⟨h,hk,hl⟩:=ih
  obtain⟨h',hk',hl'⟩:=b.HL _ _ hk _ hm
  exact⟨h',hk',by omega⟩
theorem BE.le(b:BE nb g kv)(b':BE nb g kv'){k:α}{h:Int}(hk:(k,h)∈kv): ∃h',(k,h')∈kv'/\h'<=h:=by
 have h0:=b.nn _ _ hk
 obtain⟨n,rfl⟩: ∃n:Nat,h=(n:Int):=⟨h.toNat,by omega⟩
 exact b'.of_walk (b.walk n hk)
theorem BE.same(b:BE nb g kv)(b':BE nb g kv')(x:α×Int):x∈kv↔x∈kv':=by
 have one: ∀{a a':List (α×Int)},BE nb g a->BE nb g a'-> ∀{k:α} {h:Int},(k,h)∈a->(k,h)∈a':=fun{a a'} c c' {k h} hk=>by
  obtain⟨h1,k1,l1⟩:=c.le c' hk
  obtain⟨h2,k2,l2⟩:=c'.le c k1
  have:=c.uniq hk k2
  have:h=h1:=by omega
  rw [this]
  exact k1
 exact⟨fun h=>one b b' h,fun h=>one b' b h⟩
end
theorem BE.map{α β:Type} [DecidableEq α] [DecidableEq β]{nb:α->List α}{nb':β->List β}{g:α}{kv:List (α×Int)}{f:α->β}(b:BE nb g kv)(inj: ∀k k' h h',(k,h)∈kv->(k',h')∈kv->f k=f k'->k=k')(hn: ∀k h,(k,h)∈kv-> ∀y,y∈nb' (f k)↔ ∃k'∈nb k,f k'=y):BE nb' (f g) (kv.map fun x=>(f x.1,x.2)):=by
 have mem: ∀{y:β} {h:Int},(y,h)∈kv.map (fun x=>(f x.1,x.2))↔ ∃k,(k,h)∈kv/\f k=y:=fun{y h}=>by
  rw [aQ]
  constructor
  ·rintro⟨⟨k,h'⟩,hk,e⟩
   cases e
   exact⟨k,hk,rfl⟩
  ·rintro⟨k,hk,rfl⟩
   exact⟨(k,h),hk,rfl⟩
 refine⟨?_,mem.mpr ⟨g,b.goal,rfl⟩,fun y h hy y' hy'=> ?_,fun y h hy=> ?_,fun y h hy=> ?_⟩
 ·rw [bV]
  show(kv.map fun x=>f x.1).Nodup
  have e:(kv.map fun x=>f x.1)=(kv.map (·.1)).map f:=by rw [bV]; rfl
  rw [e]
  refine cp.mpr (b.nd.imp_of_mem fun{a a'} ha ha' h q=>h ?_)
  obtain⟨⟨k,n⟩,hk,rfl⟩:=aQ.mp ha
  obtain⟨⟨k',n'⟩,hk',rfl⟩:=aQ.mp ha'
  exact inj _ _ _ _ hk hk' q
 ·obtain⟨k,hk,rfl⟩:=mem.mp hy
  obtain⟨k',hm,rfl⟩:=(hn k h hk y').mp hy'
  obtain⟨h',h1,h2⟩:=b.HL k h hk k' hm
  exact⟨h',mem.mpr ⟨k',h1,rfl⟩,h2⟩
 ·obtain⟨k,hk,rfl⟩:=mem.mp hy
  rcases b.par k h hk with⟨rfl,e⟩ | ⟨k',h',h1,h2,e⟩
  ·exact .inl ⟨rfl,e⟩
  ·exact .inr ⟨f k',h',mem.mpr ⟨k',h1,rfl⟩,(hn k' h' h1 (f k)).mpr ⟨k,h2,rfl⟩,e⟩
 ·obtain⟨k,hk,rfl⟩:=mem.mp hy
  exact b.nn k h hk
end Z
namespace Z
open PySem PySem.Spec PySem.W PyProof.Rows
section
variable {prog:av}{w:World}{A:bC}{E:Value->ai->Prop}{s:ai}
theorem vD{l:Addr}{pr:List (Value×(gr×Int))}{Q:Value->ai->Prop}(hu:A.units+8 < cLine)(hl:s.heap.IsList l (pr.map (·.1)).toArray)(ie:pr.length<=sizeLine)(y: ∀q∈pr, ∃b,q.1=aq b/\T3 prog w s.heap q.2 b)(nk:(pr.map (·.2)).Nodup)
  (h: ∀(h':Heap) (D:Nat) (out:List Value) (c:Nat),s.heap.objs.size<=D->mf eD pr out->h'.get? D=some (cg "list" out.toArray c)->(∀b ob,s.heap.get? b=some ob->h'.get? b=some ob)->Q (.ref D) {s with heap:=h'}):
  wpAny (model prog w) A (call (.builtin "sorted") [.ref l]) Q E s:=by
 refine kS C1 Ao Ap (Aq _) ?_
 unfold cP.«sorted»
 refine aa (m:=checkCount "sorted" 1 1 _) (ag ?_)
 refine aa (collect_list hl ?_ (by rw [ae]; exact ie))
 have hk: ∀b ob,s.heap.get? b=some ob->((s.heap.push (cg "list" #[] 0)).update s.heap.objs.size (cJ (· ++ (pr.map (·.1)).toArray))).get? b=some ob:=fun b ob e=>by
  rw [cS _ _ (bH (au e))]
  exact af _ e
 have hsz:s.heap.objs.size<=((s.heap.push (cg "list" #[] 0)).update s.heap.objs.size (cJ (· ++ (pr.map (·.1)).toArray))).objs.size:=by
  rw [Heap.size_update,size_push']
  exact tj _
 generalize (s.heap.push (cg "list" #[] 0)).update s.heap.objs.size (cJ (· ++ (pr.map (·.1)).toArray))=h1 at hk hsz
 refine aa (o7 ?_ (by rw [ae]; exact ie))
 have hoL:(h1.push (cg "list" (pr.map (·.1)).toArray 0)).get? h1.objs.size=some (cg "list" (pr.map (·.1)).toArray 0):=ar _ rfl
 have hk2: ∀b ob,s.heap.get? b=some ob->(h1.push (cg "list" (pr.map (·.1)).toArray 0)).get? b=some ob:=fun b ob e=>af _ (hk b ob e)
 have ltb: ∀b ob,s.heap.get? b=some ob->b≠h1.objs.size:=fun b ob e=>aF (aZ (au e) hsz)
 show wpAny _ _ _ _ _ {s with heap:=h1.push (cg "list" (pr.map (·.1)).toArray 0)}
 refine aa (bq (bh wK ⟨_,hoL,rfl⟩ uh ?body (wL _)))
 case body=>
  refine AV (s:={s with heap:=h1.push (cg "list" (pr.map (·.1)).toArray 0)}) (pr:=pr) (by simp only [gX]; omega) hoL ie (fun q hq=> ?_) nk fun h' out c hp2 hg2 hk3=> ?_
  ·obtain⟨b,e,t⟩:=y q hq
   exact⟨b,e,t.keep fun c o _ z=>hk2 c o z⟩
  ·exact⟨_,rfl,ag ⟨_,rfl,h h' h1.objs.size out c hsz hp2 hg2 fun b ob e=>hk3 b ob (ltb b ob e) (hk2 b ob e)⟩⟩
end
end Z
namespace Z
open PySem PySem.Spec PyProof.Rows L2
section
variable {X:Cx}{ρ:eZ}{M:MP}{H:Hp}{s:ai}{pins:List (Addr×Obj)}{σ:St}{e:Expr}{pos p:Pos}{kv:l8}
theorem Kz(I:Inv X pins σ H s){x:gr×Int}{v:V}{u:Value}(h:Dn X.K M H (tV x) v)(rv:RelV v u): ∃b,u= .ref b/\v= .ref b/\T3 X.prog X.w s.heap x b:=by
 obtain⟨a,xs,rfl,sq,dn⟩:=h
 cases (show u=aq a from rv)
 obtain⟨its,rr,⟨o,e1,e2,m,e3⟩,_⟩:=I.tuple sq
 obtain⟨v1,t1,rfl,d1,dn⟩:=dn
 obtain⟨v2,t2,rfl,d2,dn⟩:=dn
 cases (show t2= []from dn)
 cases rr with
 | cons r1 rr=>
  cases rr with
  | cons r2 rr=>
   cases rr
   obtain⟨b,rfl,_,y⟩:=qb I d1 r1
   cases (show v2= .int x.2 from d2)
   obtain⟨t,rfl⟩:=(show ∃t,_=fQ x.2 t from r2)
   exact⟨a,rfl,rfl,o,m,b,t,e1,e2,by simpa using e3,y⟩
theorem r_(hu:X.A.units+8 < cLine)(nd:kv.Nodup)(ie:kv.length<=sizeLine):gz X (.builtin "sorted") (fun xs H Q=> ∃q ys M,xs= [.ref q]/\lq X.K H q ys/\cE X.K M H (kv.map tV) ys/\ ∀l zs,H l=none->cE X.K M H ((fH eD kv).map tV) zs->Q (.ref l) (upd H l (.lst zs))):=by
 intro pins s σ H xs us Q I r ⟨q,ys,M,e,hq,dn,k⟩
 subst e
 obtain⟨u,rfl,rx⟩:=vals1 r
 cases rx
 obtain⟨its,rr,pl,hz⟩:=I.list hq
 have l1:ys.length=kv.length:=by rw [dn.len,ae]
 have l2:its.length=ys.length:=rr.length.symm
 have at_: ∀j (hj:j < kv.length), ∃b,its[j]'(by omega)= .ref b/\ys[j]'(by omega)= .ref b/\T3 X.prog X.w s.heap kv[j] b/\Dn X.K M H (tV kv[j]) (.ref b):=fun j hj=>by
  obtain⟨d,hd',dd⟩:=dn.getV (ah (by omega:j < ys.length))
  rw [aj,ah hj]at hd'
  cases hd'
  obtain⟨u,hu1,ru⟩:=Vals.get rr (ah (by omega:j < ys.length))
  rw [ah (by omega:j < its.length)]at hu1
  cases hu1
  obtain⟨b,e1,e2,t⟩:=Kz I dd ru
  exact⟨b,e1,e2,t,e2▸dd⟩
 have epr:(its.zip kv).map (·.1)=its:=Ic (by omega)
 have epr2:(its.zip kv).map (·.2)=kv:=jh (by omega)
 have mem: ∀x∈its.zip kv, ∃b,x.1= .ref b/\T3 X.prog X.w s.heap x.2 b/\Dn X.K M H (tV x.2) (.ref b):=fun x hx=>by
  obtain⟨j,hj,rfl⟩:=aN.mp hx
  rw [bK]at hj
  obtain⟨b,a1,a2,a3,a4⟩:=at_ j (by omega)
  rw [eP]
  exact⟨b,a1,a3,a4⟩
 refine vD (pr:=its.zip kv) hu (by rw [epr]; exact pl.isList) (by rw [bK]; omega) (fun x hx=>let⟨b,a1,a2,_⟩:=mem x hx; ⟨b,a1,a2⟩) (by rw [epr2]; exact nd) fun h' D out c hD so hg hk=> ?_
 obtain⟨qs,p1,p2,p3⟩:=so
 have ksrt:qs.map (·.2)=fH eD kv:=by
  refine kN BB ?_ ?_ nd
  ·rw [cp]; exact p3
  ·have:=p1.map (fun x:Value×(gr×Int)=>x.2)
   rw [epr2]at this
   exact this
 have adr: ∀x:Value×(gr×Int), ∃b:Addr,x∈its.zip kv->x.1= .ref b/\Dn X.K M H (tV x.2) (.ref b):=fun x=>by
  by_cases h:x∈its.zip kv
  ·obtain⟨b,a1,_,a3⟩:=mem x h
   exact⟨b,fun _=>⟨a1,a3⟩⟩
  ·exact⟨0,fun z=>absurd z h⟩
 have len:qs.length<=sizeLine:=by rw [p1.length_eq,bK]; omega
 refine⟨.ref D,_,I.laid (t':=s.toks) (fun b o e=>hk b o e) hD (o:= .lst (qs.map fun x=>V.ref (adr x).choose)) ⟨by rw [ae]; exact len,out,c, ?_,hg⟩,rfl,k D _ (I.dW.fresh hD) ?_⟩
 ·rw [<-p2]
  exact A3 fun x hx=>((adr x).choose_spec (p1.mem_iff.mp hx)).1
 ·rw [<-ksrt,bV]
  exact cE.mapZ fun x hx=>((adr x).choose_spec (p1.mem_iff.mp hx)).2
theorem ef.sortedItL(hu:X.A.units+8 < cLine)(nd:kv.Nodup)(ie:kv.length<=sizeLine)(hg:Gl X "sorted")(hm:X.mg "sorted"=none)(h:kT X ρ e (.lst (kv.map tV)))(he:ax [e] X.env= [(false,eval e X.env)]:=by rfl):ef X ρ (.Call (.Name "sorted" p) [e] [] pos) ((fH eD kv).map tV):=fun M0 H0 γ α σ H Q R k=>
 (il (r_ hu nd ie) hg hm (by decide +kernel) (dQ g8 gD he) (by decide) (by decide) he).to (h M0 H0 γ α σ H _ R fun v H1 s1 d1=>by
  obtain⟨q,ys,rfl,sq,dn⟩:=d1
  exact⟨q,ys,_,rfl,sq,dn,fun l zs hl dz=>k l zs H1 _ s1 hl (bw hl) bG (cE.map1 (fun d hd v z=>by
   obtain⟨x,_,rfl⟩:=aQ.mp hd
   exact Dn.bare 9 (A5 5 x) (z.same (bw hl))) dz)⟩)
end
end Z
namespace K
open PySem L2 Z
def Dig(rows:Rows):Prop:= ∀r∈rows, ∀c∈r,0<=c/\c<=9
theorem rL{f:c_}{rows:Rows}(h:good f rows=true):Dig rows:=fun r hr c hc=>zg h hr hc
section
variable {ns:List Int}{f:c_}{qs:dZ}{rows:Rows}{t:ny}
theorem GD:(lX ns rows).length=rows.length:=ae ..
theorem xt:(lX ns rows).flatten=rows.flatten.map (gL ns):=by
 unfold lX
 rw [List.map_flatten]
theorem pA{v:Int}:rowAt (lX ns rows) v=(rowAt rows v).map (gL ns):=by
 unfold rowAt lX
 rw [ao,aj,ao]
 cases rows[v.toNat]? <;> rfl
theorem zI:mv (lX ns rows) t=lX ns (mv rows t):=by
 unfold mv
 rw [pA,pA,ae]
 unfold lX
 rw [Am,Am,bD,yP,lI]
theorem CM(on:Once ns 10){r:List Int}(h: ∀c∈r,0<=c/\c<=9):(r.map (gL ns)).all gK=r.all gK:=by
 rw [fe,a8,a8]
 unfold gK
 constructor
 ·intro _ c hc
  have:=h c hc
  rw [decide_eq_true this.1,decide_eq_true this.2]; rfl
 ·intro _ d hd
  obtain⟨c,hc,rfl⟩:=aQ.mp hd
  have:=z8 on (h c hc)
  rw [decide_eq_true this.1,decide_eq_true this.2]; rfl
theorem Hd(on:Once ns 10)(hq: ∀q,q∈qs↔q∈f.eE)(ok:f.eE.all jj=true){r:List Int}(h: ∀c∈r,0<=c/\c<=9):yp (jo ns f qs) (r.map (gL ns))=yp f r:=by
 unfold yp
 congr 1
 rw [<-lI,List.zip_map,List.any_map,fe,List.any_eq_true,List.any_eq_true]
 have key: ∀p∈(r.drop 1).zip r,((gL ns p.1,gL ns p.2)∈(jo ns f qs).eE↔p∈f.eE):=fun p hp=>by
  have h1:=h p.1 (gQ (jM hp).1)
  have h2:=h p.2 (jM hp).2
  show(gL ns p.1,gL ns p.2)∈qs.map (qi ns)↔_
  rw [<-hq]
  constructor
  ·intro hm
   obtain⟨q,hq1,e⟩:=aQ.mp hm
   obtain⟨b1,b2,_⟩:=mJ.mp (a8.mp ok q ((hq q).mp hq1))
   have e1:gL ns q.1=gL ns p.1:=congrArg Prod.fst e
   have e2:gL ns q.2=gL ns p.2:=congrArg Prod.snd e
   have:q=p:=wC (q_ on b1 h1 e1) (q_ on b2 h2 e2)
   rw [<-this]
   exact hq1
  ·intro hm
   exact aQ.mpr ⟨p,hm,rfl⟩
 constructor
 ·rintro⟨p,hp,hm⟩
  exact⟨p,hp,decide_eq_true ((key p hp).mp (of_decide_eq_true hm))⟩
 ·rintro⟨p,hp,hm⟩
  exact⟨p,hp,decide_eq_true ((key p hp).mpr (of_decide_eq_true hm))⟩
theorem AG(on:Once ns 10)(hq: ∀q,q∈qs↔q∈f.eE)(ok:f.eE.all jj=true){r:List Int}(h: ∀c∈r,0<=c/\c<=9):fY (jo ns f qs) (r.map (gL ns))=fY f r:=by
 rw [qX,qX,CM on h,Hd on hq ok h,ae]
 rfl
theorem BZ(on:Once ns 10){l:List Int}(h: ∀c∈l,0<=c/\c<=9):(l.map (gL ns)).Nodup↔l.Nodup:=by
 constructor
 ·intro z
  exact(cp.mp z).imp fun{a b} q e=>q (by rw [e])
 ·intro z
  exact cp.mpr (z.imp_of_mem fun{a b} ha hb q e=>q (q_ on (h a ha) (h b hb) e))
theorem xg(on:Once ns 10)(hq: ∀q,q∈qs↔q∈f.eE)(ok:f.eE.all jj=true)(h:Dig rows):good (jo ns f qs) (lX ns rows)=good f rows:=by
 unfold good
 rw [GD,xt]
 have e1:decide (rows.flatten.map (gL ns)).Nodup=decide rows.flatten.Nodup:=decide_eq_decide.mpr (BZ on fun c hc=>by
  obtain⟨r,hr,hc⟩:=Ih.mp hc
  exact h r hr c hc)
 have e2:(lX ns rows).all (fY (jo ns f qs))=rows.all (fY f):=by
  unfold lX
  rw [jY,fe,a8,a8]
  constructor
  ·intro z r hr
   rw [<-AG on hq ok (h r hr)]
   exact z r hr
  ·intro z r hr
   show fY (jo ns f qs) (r.map (gL ns))=true
   rw [AG on hq ok (h r hr)]
   exact z r hr
 rw [e1,e2]
 rfl
theorem IU(hl:(rows.length:Int)=f.st)(hc:A4 f rows t)(h:Dig rows):Dig (mv rows t):=fun r hr c hc'=>by
 have:c∈rows.flatten:=(we hl hc).mem_iff.mp (Ih.mpr ⟨r,hr,hc'⟩)
 obtain⟨r',hr',hm⟩:=Ih.mp this
 exact h r' hr' c hm
theorem Gi:j6 (jo ns f qs) (lX ns rows) t=j6 f rows t:=by
 unfold j6
 rw [pA,ae]
 rfl
theorem AW(on:Once ns 10)(hq: ∀q,q∈qs↔q∈f.eE)(ok:f.eE.all jj=true)(hg:good f rows=true):isLet (jo ns f qs) (lX ns rows) t=isLet f rows t:=by
 unfold isLet
 rw [Gi]
 cases hc:j6 f rows t with
 | false=>rfl
 | true=>
  rw [zI,xg on hq ok (IU (gB hg) (ll.mp hc) (rL hg))]
theorem Gy(on:Once ns 10): ∀{a b:Rows},Dig a->Dig b->lX ns a=lX ns b->a=b:=by
 have one: ∀{a b:List Int},(∀c∈a,0<=c/\c<=9)->(∀c∈b,0<=c/\c<=9)->a.map (gL ns)=b.map (gL ns)->a=b:=by
  intro a
  induction a with
  | nil=>intro b _ _ e; cases b with
   | nil=>rfl
   | cons y b=>cases e
  | cons x a ih=>intro b ha hb e; cases b with
   | nil=>cases e
   | cons y b=>
    rw [aY,aY]at e
    obtain⟨e1,e2⟩:=List.cons.inj e
    rw [q_ on (ha x (.head _)) (hb y (.head _)) e1,ih (fun c hc=>ha c (.tail _ hc)) (fun c hc=>hb c (.tail _ hc)) e2]
 intro a
 induction a with
 | nil=>intro b _ _ e; cases b with
  | nil=>rfl
  | cons y b=>cases e
 | cons x a ih=>intro b ha hb e; cases b with
  | nil=>cases e
  | cons y b=>
   unfold lX at e ih
   rw [aY,aY]at e
   obtain⟨e1,e2⟩:=List.cons.inj e
   rw [one (ha x (.head _)) (hb y (.head _)) e1,ih (fun r hr=>ha r (.tail _ hr)) (fun r hr=>hb r (.tail _ hr)) e2]
end
theorem Aw{ns:List Int}{f:c_}{qs:dZ}{g:Rows}(on:Once ns 10)(o:gg f qs g)(o':gg (jo ns f qs) (gC (qs.map (qi ns))) (lX ns g)):BE (nb (jo ns f qs)) (lX ns g) ((jD f g).map fun x=>(lX ns x.1,x.2)):=by
 have e:=o.fin
 refine BE.map e.be (fun k k' h h' h1 h2 q=>Gy on (rL (e.zZ _ h1).gd) (rL (e.zZ _ h2).gd) q) fun k h hk y=> ?_
 have hg:=(e.zZ _ hk).gd
 rw [nC o'.s.ok]
 constructor
 ·rintro⟨t,ht,rfl⟩
  rw [AW on o.s.mem o.s.ok.ok hg]at ht
  exact⟨mv k t,(nC o.s.ok).mpr ⟨t,ht,rfl⟩,zI.symm⟩
 ·rintro⟨k',hk',rfl⟩
  obtain⟨t,ht,rfl⟩:=(nC o.s.ok).mp hk'
  exact⟨t,by rw [AW on o.s.mem o.s.ok.ok hg]; exact ht,zI⟩
section
variable {os:List Int}{rows:Rows}{f:c_}
theorem p9(on:Once os rows.length){i:Nat}(h:i < rows.length):(os.getD i 0).toNat < rows.length/\0<=os.getD i 0/\os.getD i 0 < rows.length:=by
 have hl:i < os.length:=by rw [on.len]; exact h
 have hm:os.getD i 0∈os:=by rw [ao,ah hl]; exact aR hl
 have:=on.xR _ hm
 omega
theorem zh(on:Once os rows.length){i j:Nat}(hi:i < rows.length)(hj:j < rows.length)(e:os.getD i 0=os.getD j 0):i=j:=by
 have h1:i < os.length:=by rw [on.len]; exact hi
 have h2:j < os.length:=by rw [on.len]; exact hj
 rw [ao,ah h1,ao,ah h2]at e
 exact(gW on.nd).mp e
theorem uJ(on:Once os rows.length): ∀(n:Nat),n<=rows.length-> ∀i,i < n->(nt rows os n)[(os.getD i 0).toNat]? =some (rows.getD i [])
 | 0,_,i,h=>by omega
 | n+1,hn,i,h=>by
  rw [nt,fm]
  obtain⟨a1,a2,a3⟩:=p9 on (show n < rows.length by omega)
  obtain⟨b1,b2,b3⟩:=p9 on (show i < rows.length by omega)
  by_cases e:i=n
  ·subst e
   rw [if_pos rfl,if_pos (by rw [mI]; exact a1)]
  ·have:(os.getD n 0).toNat≠(os.getD i 0).toNat:=fun z=>e (zh on (by omega) (by omega) (by omega))
   rw [if_neg this]
   exact uJ on n (by omega) i (by omega)
theorem j9:(jT rows os).length=rows.length:=mI _ _ _
theorem mS(on:Once os rows.length){i:Nat}(h:i < rows.length):(jT rows os)[(os.getD i 0).toNat]? =some (rows.getD i []):=uJ on _ (ay _) i h
theorem qG(on:Once os rows.length){j:Nat}(hj:j < rows.length): ∃i,i < rows.length/\os.getD i 0=(j:Int):=by
 have sub: ∀x∈os,x∈(bE rows.length).map fun(i:Nat)=>(i:Int):=fun x hx=>by
  have:=on.xR x hx
  exact aQ.mpr ⟨x.toNat,dh.mpr (by omega),by omega⟩
 by_cases h:(j:Int)∈os
 ·obtain⟨i,hi,e⟩:=dB h
  refine⟨i,by rw [<-on.len]; exact hi, ?_⟩
  rw [ao,ah hi]
  exact e
 ·exfalso
  have sub2: ∀x∈os,x∈((bE rows.length).map fun(i:Nat)=>(i:Int)).erase (j:Int):=fun x hx=>by
   refine(CY (fun z:x=(j:Int)=>h (z▸hx))).mpr (sub x hx)
  have l1:=zy on.nd sub2
  have hm:(j:Int)∈(bE rows.length).map fun(i:Nat)=>(i:Int):=aQ.mpr ⟨j,dh.mpr hj,rfl⟩
  rw [yM hm,ae,bT,on.len]at l1
  omega
end
section
variable {os:List Int}{rows:Rows}{f:c_}{t:ny}
theorem Dd(on:Once os rows.length){r:Rows}(hl:r.length=rows.length)(h: ∀i,i < rows.length->r[(os.getD i 0).toNat]? =some (rows.getD i [])):r=jT rows os:=by
 apply cA
 intro j
 by_cases hj:j < rows.length
 ·obtain⟨i,hi,e⟩:=qG on hj
  have e2:(os.getD i 0).toNat=j:=by rw [e]; omega
  have h1:=h i hi
  have h2:=mS on hi
  rw [e2]at h1 h2
  rw [h1,h2]
 ·rw [aI (by omega),aI (by rw [j9]; omega)]
theorem mT(on:Once os rows.length){v:Int}(h0:0<=v)(h:v < rows.length):rowAt (jT rows os) (os.getD v.toNat 0)=rowAt rows v:=by
 unfold rowAt
 rw [ao,mS on (by omega)]
 rfl
def EN(os:List Int)(t:ny):ny:=(os.getD t.1.toNat 0,os.getD t.2.1.toNat 0,t.2.2)
theorem HE(on:Once os rows.length)(hl:(rows.length:Int)=f.st)(h:A4 f rows t):A4 f (jT rows os) (EN os t):=by
 obtain⟨a0,a1,b0,b1,ne,n1,nl,nr⟩:=h
 obtain⟨p1,p2,p3⟩:=p9 on (show t.1.toNat < rows.length by omega)
 obtain⟨q1,q2,q3⟩:=p9 on (show t.2.1.toNat < rows.length by omega)
 refine⟨p2,by show os.getD t.1.toNat 0 < f.st; omega,q2,by show os.getD t.2.1.toNat 0 < f.st; omega,fun z=>ne ?_,n1,nl, ?_⟩
 ·have:=zh on (show t.1.toNat < rows.length by omega) (show t.2.1.toNat < rows.length by omega) z
  omega
 ·show t.2.2<=((rowAt (jT rows os) (os.getD t.1.toNat 0)).length:Int)
  rw [mT on a0 (by omega)]
  exact nr
theorem zW(on:Once os rows.length)(hl:(rows.length:Int)=f.st)(h:A4 f rows t):mv (jT rows os) (EN os t)=jT (mv rows t) os:=by
 obtain⟨a0,a1,b0,b1,ne,n1,nl,nr⟩:=h
 have on':Once os (mv rows t).length:=by rw [nG]; exact on
 refine Dd on' (by rw [nG,j9,nG]) fun i hi=> ?_
 rw [nG]at hi
 have ha:t.1.toNat < rows.length:=by omega
 have hb:t.2.1.toNat < rows.length:=by omega
 obtain⟨p1,p2,p3⟩:=p9 on ha
 obtain⟨q1,q2,q3⟩:=p9 on hb
 obtain⟨r1,r2,r3⟩:=p9 on hi
 have ni: ∀{x:Nat},x < rows.length->i≠x->(os.getD x 0).toNat≠(os.getD i 0).toNat:=fun{x} hx hne z=>hne (zh on hi hx (by have:=p9 on hx; omega))
 show((((jT rows os).set (os.getD t.1.toNat 0).toNat _).set (os.getD t.2.1.toNat 0).toNat _))[(os.getD i 0).toNat]? =some (List.getD ((rows.set t.1.toNat _).set t.2.1.toNat _) i [])
 have ra:rowAt (jT rows os) (EN os t).1=rowAt rows t.1:=mT on a0 (by omega)
 have rb:rowAt (jT rows os) (EN os t).2.1=rowAt rows t.2.1:=mT on b0 (by omega)
 have e0: ∀(l:Rows),l.getD i []=(l[i]?).getD []:=fun l=>ao ..
 rw [ra,rb,show(EN os t).2.2=t.2.2 from rfl,e0]
 simp only [fm]
 by_cases e1:t.2.1.toNat=i
 ·have eB:(os.getD t.2.1.toNat 0).toNat=(os.getD i 0).toNat:=by rw [e1]
  rw [if_pos eB,if_pos e1,if_pos (by rw [bo,j9]; exact q1),if_pos (by rw [bo]; exact hb)]
  rfl
 ·rw [if_neg (ni hb fun z=>e1 z.symm),if_neg e1]
  by_cases e2:t.1.toNat=i
  ·have eA:(os.getD t.1.toNat 0).toNat=(os.getD i 0).toNat:=by rw [e2]
   rw [if_pos eA,if_pos e2,if_pos (by rw [j9]; exact p1),if_pos ha]
   rfl
  ·rw [if_neg (ni ha fun z=>e2 z.symm),if_neg e2,mS on hi,e0]
theorem xM(on:Once os rows.length):(jT rows os).Perm rows:=by
 have e1:rows=(bE rows.length).map fun i=>rows.getD i []:=by
  apply cA
  intro j
  rw [aj]
  by_cases hj:j < rows.length
  ·rw [jS hj,ah hj,uf,ao,ah hj]
   rfl
  ·rw [aI (by omega),aI (by rw [bT]; omega)]
   rfl
 have e2:(jT rows os)=(bE rows.length).map fun j=>(jT rows os).getD j []:=by
  apply cA
  intro j
  rw [aj]
  by_cases hj:j < rows.length
  ·rw [jS hj,ah (by rw [j9]; exact hj),uf,ao,ah (by rw [j9]; exact hj)]
   rfl
  ·rw [aI (by rw [j9]; omega),aI (by rw [bT]; omega)]
   rfl
 have pp:(os.map Int.toNat).Perm (bE rows.length):=by
  refine(List.perm_ext_iff_of_nodup ?_ List.nodup_range).mpr fun j=> ?_
  ·exact cp.mpr (on.nd.imp_of_mem fun{a b} ha hb h z=>h (by have:=on.xR a ha; have:=on.xR b hb; omega))
  ·rw [aQ,dh]
   constructor
   ·rintro⟨x,hx,rfl⟩
    have:=on.xR x hx
    omega
   ·intro hj
    obtain⟨i,hi,e⟩:=qG on hj
    have hl:i < os.length:=by rw [on.len]; exact hi
    refine⟨os.getD i 0,by rw [ao,ah hl]; exact aR hl,by rw [e]; omega⟩
 have e3:rows=(os.map Int.toNat).map fun j=>(jT rows os).getD j []:=by
  apply cA
  intro i
  rw [bV,aj]
  by_cases hi:i < rows.length
  ·have hl:i < os.length:=by rw [on.len]; exact hi
   rw [ah hl,ah hi,uf]
   have h:=mS on hi
   have e:os.getD i 0=os[i]:=by rw [ao,ah hl]; rfl
   show some rows[i]=some ((jT rows os).getD (os[i]).toNat [])
   rw [<-e,ao,h,ao,ah hi]
   rfl
  ·rw [aI (by omega),aI (by rw [on.len]; omega)]
   rfl
 have p:=pp.map fun j=>(jT rows os).getD j []
 rw [<-e3, <-e2]at p
 exact p.symm
theorem xP(on:Once os rows.length):good f (jT rows os)=good f rows:=by
 have p:=xM on
 unfold good
 have e1:decide (jT rows os).flatten.Nodup=decide rows.flatten.Nodup:=decide_eq_decide.mpr (p.flatten.nodup_iff)
 have e2:(jT rows os).all (fY f)=rows.all (fY f):=by
  rw [fe,a8,a8]
  exact⟨fun h r hr=>h r (p.mem_iff.mpr hr),fun h r hr=>h r (p.mem_iff.mp hr)⟩
 rw [e1,e2,j9]
end
section
variable {os:List Int}{rows:Rows}{f:c_}{t:ny}
theorem ve(on:Once os rows.length)(hl:(rows.length:Int)=f.st)(a0:0<=t.1)(a1:t.1 < rows.length)(b0:0<=t.2.1)(b1:t.2.1 < rows.length)(h:A4 f (jT rows os) (EN os t)):A4 f rows t:=by
 obtain⟨_,_,_,_,ne,n1,nl,nr⟩:=h
 refine⟨a0,by omega,b0,by omega,fun z=>ne ?_,n1,nl, ?_⟩
 ·show os.getD t.1.toNat 0=os.getD t.2.1.toNat 0
  rw [z]
 ·have e:rowAt (jT rows os) (EN os t).1=rowAt rows t.1:=mT on a0 (by omega)
  rw [e]at nr
  exact nr
theorem AB(on:Once os rows.length)(hl:(rows.length:Int)=f.st)(hc:A4 f rows t):isLet f (jT rows os) (EN os t)=isLet f rows t:=by
 unfold isLet
 rw [ll.mpr hc,ll.mpr (HE on hl hc),zW on hl hc,xP (by rw [nG]; exact on)]
theorem GI{a b:Rows}(la:Once os a.length)(lb:Once os b.length)(e:jT a os=jT b os):a=b:=by
 have hl:a.length=b.length:=by have:=la.len; have:=lb.len; omega
 apply cA
 intro i
 by_cases hi:i < a.length
 ·have h1:=mS la hi
  have h2:=mS lb (show i < b.length by omega)
  rw [e,h2]at h1
  have:=aA h1
  rw [ah hi,ah (show i < b.length by omega)]
  rw [ao,ah (show i < b.length by omega),ao,ah hi]at this
  exact congrArg some this.symm
 ·rw [aI (by omega),aI (by omega)]
end
theorem A6{os:List Int}{f:c_}{qs:dZ}{g:Rows}(o:gg f qs g)(on:Once os g.length):BE (nb f) (jT g os) ((jD f g).map fun x=>(jT x.1 os,x.2)):=by
 have e:=o.fin
 have onk: ∀{k:Rows} {h:Int},(k,h)∈jD f g->Once os k.length:=fun{k h} hk=>by rw [(e.zZ _ hk).of.2]; exact on
 refine BE.map e.be (fun k k' h h' h1 h2 q=>GI (onk h1) (onk h2) q) fun k h hk y=> ?_
 have hg:good f k=true:=(e.zZ _ hk).gd
 have hl:(k.length:Int)=f.st:=gB hg
 have on':=onk hk
 rw [nC o.s.ok]
 constructor
 ·rintro⟨t',ht',rfl⟩
  obtain⟨hc',_⟩:=vz ht'
  obtain⟨i,hi,ei⟩:=qG on' (show t'.1.toNat < k.length by have:=hc'.a0; have:=hc'.a1; omega)
  obtain⟨j,hj,ej⟩:=qG on' (show t'.2.1.toNat < k.length by have:=hc'.b0; have:=hc'.b1; omega)
  have et:EN os ((i:Int),(j:Int),t'.2.2)=t':=by
   obtain⟨x,y,z⟩:=t'
   unfold EN
   have h1:=hc'.a0
   have h2:=hc'.b0
   dsimp only at *
   rw [bU,bU,ei,ej]
   congr 1
   ·omega
   ·congr 1
    omega
  rw [<-et]at hc' ht' ⊢
  have hc:=ve on' hl (by show(0:Int)<=(i:Int); omega) (by show(i:Int) < _; omega) (by show(0:Int)<=(j:Int); omega) (by show(j:Int) < _; omega) hc'
  rw [AB on' hl hc]at ht'
  exact⟨_,(nC o.s.ok).mpr ⟨_,ht',rfl⟩,(zW on' hl hc).symm⟩
 ·rintro⟨k',hk',rfl⟩
  obtain⟨t,ht,rfl⟩:=(nC o.s.ok).mp hk'
  obtain⟨hc,_⟩:=vz ht
  exact⟨EN os t,by rw [AB on' hl hc]; exact ht,zW on' hl hc⟩
theorem iH{kv:l8}(nd:(kv.map (·.1)).Nodup):kv.Nodup:=(cp.mp nd).imp fun{a b} h z=>h (by rw [z])
theorem uV{a b:l8}(ha:a.Nodup)(hb:b.Nodup)(h: ∀x,x∈a↔x∈b):fH eD a=fH eD b:=by
 have p:a.Perm b:=(List.perm_ext_iff_of_nodup ha hb).mpr h
 exact kN BB (qL BB a ha) ((fZ a).trans p) hb
theorem BV{kv:l8}(nd:(kv.map (·.1)).Nodup):(fH eD kv).map (·.1)=fH ky (kv.map (·.1)):=by
 have p:=fZ (lt:=eD) kv
 refine kN zi ?_ (p.map _) nd
 have nd2:((fH eD kv).map (·.1)).Nodup:=(p.map _).nodup_iff.mpr nd
 rw [cp]
 refine((qL BB kv (iH nd)).and (cp.mp nd2)).imp fun{x y} h=> ?_
 have h1:=h.1
 unfold eD at h1
 rw [if_neg h.2]at h1
 exact h1
def yw(n:Nat):List Int:=(bE n).map fun(i:Nat)=>(0:Int)+(i:Int)
theorem CB(n:Nat):kg 0 n=(yw n).map .int:=by
 unfold kg yw
 rw [bV]
 rfl
theorem oP(n:Nat):(yw n).length=n:=by unfold yw; rw [ae,bT]
def rS:Nat->Int->List Int->List Int->List Int
 | 0,_,_,order=>order
 | m+1,cell,left,order=>
  let cell':=(cell * 48271+11) % 2147483647
  let i:=(cell' / 7 % left.length).toNat
  rS m cell' (left.eraseIdx i) (order ++ [left.getD i 0])
def drawn(many:Nat)(cell:Int):List Int:=rS many cell (yw many) []
theorem zG{l:List Int}{i:Nat}(h:i < l.length):(l.getD i 0::l.eraseIdx i).Perm l:=by
 induction l generalizing i with
 | nil=>cases h
 | cons a l ih=>
  cases i with
  | zero=>exact cR _
  | succ i=>
   rw [yZ]
   show(l.getD i 0::a::l.eraseIdx i).Perm (a::l)
   exact(List.Perm.swap a (l.getD i 0) _).trans ((ih (by simpa using h)).cons a)
theorem p8: ∀(m:Nat) (cell:Int) (left order:List Int),left.length=m->(rS m cell left order).Perm (order ++ left)
 | 0,_,left,order,h=>by
  rw [lQ.mp h,bJ]
  exact cR _
 | m+1,cell,left,order,h=>by
  have hi:(((cell * 48271+11) % 2147483647) / 7 % (left.length:Int)).toNat < left.length:=by
   have h0:=gn (((cell * 48271+11) % 2147483647) / 7) (show(left.length:Int)≠0 by omega)
   have h1:=eT (((cell * 48271+11) % 2147483647) / 7) (show(0:Int) < left.length by omega)
   omega
  refine(p8 m _ _ _ (by rw [kq hi]; omega)).trans ?_
  rw [aP]
  exact(zG hi).append_left order
theorem qP(many:Nat)(cell:Int):Once (drawn many cell) many:=by
 have p:(drawn many cell).Perm (yw many):=p8 many cell (yw many) [] (oP many)
 refine⟨by rw [p.length_eq,oP],fun n hn=> ?_,p.nodup_iff.mpr ?_⟩
 ·obtain⟨i,hi,rfl⟩:=aQ.mp (p.mem_iff.mp hn)
  have:=dh.mp hi
  omega
 ·exact cp.mpr (List.nodup_range.imp fun{a b} h z=>h (by omega))
theorem sr(f:c_): ∀(m:Nat) (cell:Int) (rows:Rows) (left:List Int),(nK f m cell rows left).flatten.length<=rows.flatten.length+m
 | 0,_,_,_=>ay _
 | m+1,cell,rows,left=>by
  unfold nK
  dsimp only
  refine bj (sr f m _ _ _) ?_
  have:=(place_len f ((cell * 48271+17) % 2147483647) rows (left.getD (((cell * 48271+17) % 2147483647) / 7 % left.length).toNat 0) f.st.toNat).2
  split at this <;> omega
theorem vn(f:c_)(cell:Int)(crates:List Int):(eC f cell crates).flatten.length<=crates.length:=by
 have:=sr f crates.length cell (eR f.st.toNat []) crates
 have e:(eR f.st.toNat ([]:List Int)).flatten= []:=by simp
 rw [e]at this
 unfold eC
 simpa using this
section
variable {P:av}{w:World}{K:Frag}{mg:Str->Option Value}{base:Heap}{CX:gM}
theorem A_:bQ ["many","cell","left","order"] ["many","cell"] (aL vc):=⟨rfl,rfl,rfl,by decide +kernel,rfl,by decide +kernel,by decide +kernel⟩
abbrev zu(P:av)(w:World)(K:Frag)(mg:Str->Option Value)(base:Heap)(CX:gM):Prop:=
 jU P w K mg base CX 1 "_law_order" (fun i:Nat×Int=> [.int i.1, .int i.2]) (fun i=>i.1<=100) (fun i=> .ok (.lst ((drawn i.1 i.2).map .int)))
theorem Fu{f:Addr}{fd:bg}(B:Bm mg)(F:ji K "_law_order" "_law_order" vc f fd)(hm:mg "_law_order"=some (.ref f))(hb:Binds K fd ["many","cell"] []):zu P w K mg base CX:=by
 refine fN F A_ hm hb (fun i=>rfl) fun cdv A outer s H E i M0 hp hr=>⟨_,rfl, ?_⟩
 obtain⟨many,cell0⟩:=i
 have hp2:many<=100:=hp
 have px:=A_.nd
 change WS _ M0 H (bt vc) [.im (.int many), .im (.int cell0), .un, .un] {N:=fun _=>D.lst ((drawn many cell0).map .int)= .non,R:=fun d'=>d'= .lst ((drawn many cell0).map .int)}
 refine WS.cons (W1.setF (i:=2) px rfl (.inl rfl) (g9 rfl) (ef.listRng rfl rfl B.list rfl B.range (nm 0 rfl rfl) (by omega) (by omega)) ?_)
 rw [bU,CB]
 refine WS.cons (W1.setF (i:=3) px rfl (.inl rfl) (g9 rfl) (ef.lst bp.nil) ?_)
 refine WS.cons (W1.while (fun ρ=> ∃cell left order,ρ= [.im (.int many), .im (.int cell), .mu (left.map .int), .mu (order.map .int)]/\order.length+left.length=many/\rS left.length cell left order=drawn many cell0)
  (Ip 2) cy ⟨cell0,yw many, [],rfl,by rw [oP]; exact qt _,by rw [oP]; rfl⟩ ?_)
 rintro ρ ⟨cell,left,order,rfl,hsz,hrun⟩
 refine⟨_,c8.ne (Gf (xj hr)) (BF 2 rfl rfl) (az.r (ef.toD (ef.lst bp.nil))) uQ (fun _ h=>by cases h),fun h=> ?_,fun h=> ?_⟩
 ·rw [qI]at h
  have hne:left≠ []:=by simpa using h
  obtain⟨m,hm⟩: ∃m,left.length=m+1:=⟨left.length - 1,by have:=List.length_pos_iff.mpr hne; omega⟩
  rw [hm]at hrun
  refine WS.cons (W1.set (i:=1) px rfl (.inl rfl) (g9 rfl) (az.mod (az.add (az.mul (nm 1 rfl rfl) az.int (.inr ⟨by decide,by decide⟩)) az.int) az.int (by decide)) ?_)
  generalize hc:(cell * 48271+11) % 2147483647=cell'
  have hi0:0<=cell' / 7 % (left.length:Int):=gn _ (by omega)
  have hi1:cell' / 7 % (left.length:Int) < left.length:=eT _ (by omega)
  generalize hix:(cell' / 7 % (left.length:Int)).toNat=ix
  have hlt:ix < left.length:=by omega
  have hlen2:(left.eraseIdx ix).length+1=left.length:=by rw [kq hlt]; omega
  refine WS.one (W1.appPop (i:=2) (j:=3) (n:=ix) (c:=left.getD ix 0) (zs:=left) (os:=order) rfl (.inl rfl) rfl rfl (.inl rfl) rfl (by decide) (az.mod (az.fdiv (nm 1 rfl rfl) az.int ⟨by decide,by decide⟩) (az.lenL rfl B.len (BF 2 rfl rfl)) (by rw [ae]; omega)) (by rw [ae]; omega)
   (by rw [ao,ah hlt]; rfl) (by omega) (by omega) ?_ ⟨rfl,rfl,rfl,rfl⟩ ⟨rfl,rfl,rfl,rfl⟩)
  refine⟨⟨cell',left.eraseIdx ix,order ++ [left.getD ix 0],rfl,by rw [aw,eY]; omega, ?_⟩, ?_⟩
  ·rw [<-hrun]
   have:(left.eraseIdx ix).length=m:=by omega
   rw [this]
   show _=rS m ((cell * 48271+11) % 2147483647) (left.eraseIdx ((cell * 48271+11) % 2147483647 / 7 % left.length).toNat) (order ++ [left.getD ((cell * 48271+11) % 2147483647 / 7 % left.length).toNat 0])
   rw [hc,hix]
  ·show((left.eraseIdx ix).map D.int).length < (left.map D.int).length
   rw [ae,ae]
   omega
 ·rw [qI]at h
  have hnil:left= []:=by simpa using h
  subst hnil
  have e:order=drawn many cell0:=hrun
  subst e
  exact WS.freeze (i:=3) rfl (WS.one (W1.ret (nm 3 rfl rfl) rfl))
end
end K
namespace Z
open PySem PySem.Spec PyProof.Rows L2
def constsOf:List Expr->Option (List Int)
 | []=>some []
 | .Constant (.int i) _ _::es=>(constsOf es).map (i:: ·)
 | _=>none
theorem bp.consts{X:Cx}{ρ:eZ}: ∀{es:List Expr} {ns:List Int},constsOf es=some ns->bp X ρ es (ns.map .int)
 | [],ns,h=>by cases h; exact bp.nil
 | e::es,ns,h=>by
  unfold constsOf at h
  split at h
  ·rename_i e1; cases e1
  ·rename_i i k p es' e1
   cases e1
   cases q:constsOf es with
   | none=>rw [q]at h; cases h
   | some l=>
    rw [q]at h
    cases h
    exact bp.cons az.int (bp.consts q)
  ·cases h
end Z
namespace K
open PySem L2 Z
def uo(c:Int):Int:= [0,1,2,3,3,2,3,4].getD c.toNat 0
theorem rC(c:Int):uw [D.int 0, .int 1, .int 2, .int 3, .int 3, .int 2, .int 3, .int 4] (c % 8)=some (.int (uo (c % 8)))/\0<=uo (c % 8)/\uo (c % 8)<=4:=by
 have h0:=gn c (show(8:Int)≠0 by decide)
 have h1:=eT c (show(0:Int) < 8 by decide)
 have:c % 8=0\/c % 8=1\/c % 8=2\/c % 8=3\/c % 8=4\/c % 8=5\/c % 8=6\/c % 8=7:=by omega
 rcases this with e | e | e | e | e | e | e | e <;> rw [e] <;> exact⟨rfl,by decide,by decide⟩
def l9(ns:List Int)(first:Nat)(f:c_):Int:=if(decide (f.st=3)&&decide (0 < cellAt ns first / 72 % 4)) || decide (f.st=4)then least (uo (cellAt ns first % 8)) 2 else uo (cellAt ns first % 8)
def l7(ns:List Int)(first:Nat)(f:c_):Int:=if f.st=3 then least (l9 ns first f) 3 else l9 ns first f
def small(ns:List Int)(first:Nat)(f:c_):List Int:=(bE (l7 ns first f).toNat).map fun(k:Nat)=>cellAt ns first / 8 % 3+(0+(k:Int))
theorem uz{a b:Int}(ha:0<=a/\a<=4)(hb:0<=b):0<=least a b/\least a b<=4:=by unfold least; split <;> omega
theorem rP(ns:List Int)(first:Nat)(f:c_):0<=l9 ns first f/\l9 ns first f<=4:=by
 unfold l9
 split
 ·exact uz (rC _).2 (by decide)
 ·exact(rC _).2
theorem rO(ns:List Int)(first:Nat)(f:c_):0<=l7 ns first f/\l7 ns first f<=4:=by
 unfold l7
 split
 ·exact uz (rP _ _ _) (by decide)
 ·exact rP _ _ _
theorem Ca(ns:List Int)(first:Nat)(f:c_):(small ns first f).length<=4:=by
 unfold small
 rw [ae,bT]
 have:=rO ns first f
 omega
section
variable {P:av}{w:World}{K:Frag}{mg:Str->Option Value}{base:Heap}{CX:gM}
theorem Bs:bQ ["script","first","floor","many","names"] ["script","first","floor"] (aL vk):=⟨rfl,rfl,rfl,by decide +kernel,rfl,by decide +kernel,by decide +kernel⟩
abbrev zj(P:av)(w:World)(K:Frag)(mg:Str->Option Value)(base:Heap)(CX:gM):Prop:=
 jU P w K mg base CX 2 "_law_small" (fun i:List Int×Nat×c_=> [.lst (i.1.map .int), .int i.2.1,i.2.2.d]) (fun _=>True) (fun i=> .ok (.lst ((small i.1 i.2.1 i.2.2).map .int)))
set_option maxHeartbeats 4000000 in
theorem EJ{f:Addr}{fd:bg}(nx:NX CX)(B:Bm mg)(G1:yf P w K mg base CX)(F:ji K "_law_small" "_law_small" vk f fd)(hm:mg "_law_small"=some (.ref f))(hb:Binds K fd ["script","first","floor"] []):zj P w K mg base CX:=by
 refine fN F Bs hm hb (fun i=>rfl) fun cdv A outer s H E i M0 hp hr=>⟨_,rfl, ?_⟩
 obtain⟨ns,first,fl⟩:=i
 have px:=Bs.nd
 obtain⟨p1,p2,p3⟩:=rC (cellAt ns first)
 obtain⟨r1,r2⟩:=rO ns first fl
 change WS _ M0 H (bt vk) [.im (.lst (ns.map .int)), .im (.int first), .im fl.d, .un, .un] {N:=fun _=>D.lst ((small ns first fl).map .int)= .non,R:=fun d'=>d'= .lst ((small ns first fl).map .int)}
 refine WS.cons (W1.set (i:=3) (d:= .int (uo (cellAt ns first % 8))) px rfl (.inl rfl) (g9 rfl) (az.ixL (az.r (ef.toD (ef.lst (bp.consts (ns:= [0,1,2,3,3,2,3,4]) rfl)))) (az.mod (az.call G1 hr (bb nx) rfl (ns,first) (bp.cons (nm 0 rfl rfl) (bp.cons (nm 1 rfl rfl) bp.nil)) trivial rfl) az.int (by decide)) p1) ?_)
 refine WS.cons (P:=_) (W1.imp (P:={N:=fun ρ'=>ρ'= [.im (.lst (ns.map .int)), .im (.int first), .im fl.d, .im (.int (l9 ns first fl)), .un],R:=fun _=>False}) (W1.ite (i6.t (i6.or (i6.t (i6.and (c8.cI .eq (az.ixT (nm 2 rfl rfl) az.int rfl) az.int) fun _=>i6.and1 (c8.cI .gt (az.mod (az.fdiv (az.call G1 hr (bb nx) rfl (ns,first) (bp.cons (nm 0 rfl rfl) (bp.cons (nm 1 rfl rfl) bp.nil)) trivial rfl) az.int ⟨by decide,by decide⟩) az.int (by decide)) az.int))) fun _=>i6.or1 (c8.cI .eq (az.ixT (nm 2 rfl rfl) az.int rfl) az.int))) (fun h=>WS.one (W1.set (i:=3) px rfl (.inl rfl) (g9 rfl) (JE rfl rfl B.min (nm 3 rfl rfl) az.int) ?_)) fun h=>WS.nil ?_) ?_ (fun _ z=>z.elim) (fun _ z=>z.elim) fun _ z=>z.elim)
 ·show _=_
  unfold l9
  rw [if_pos h]
  rfl
 ·show _=_
  unfold l9
  rw [if_neg (by rw [h]; exact aC)]
  rfl
 rintro ρ rfl
 refine WS.cons (P:=_) (W1.imp (P:={N:=fun ρ'=>ρ'= [.im (.lst (ns.map .int)), .im (.int first), .im fl.d, .im (.int (l7 ns first fl)), .un],R:=fun _=>False}) (W1.ite (c8.cI .eq (az.ixT (nm 2 rfl rfl) az.int rfl) az.int) (fun h=>WS.one (W1.set (i:=3) px rfl (.inl rfl) (g9 rfl) (JE rfl rfl B.min (nm 3 rfl rfl) az.int) ?_)) fun h=>WS.nil ?_) ?_ (fun _ z=>z.elim) (fun _ z=>z.elim) fun _ z=>z.elim)
 ·show _=_
  unfold l7
  rw [if_pos (of_decide_eq_true h)]
  rfl
 ·show _=_
  unfold l7
  rw [if_neg (of_decide_eq_false h)]
 rintro ρ rfl
 refine WS.cons (W1.comp (i:=4) (ds:=kg 0 (l7 ns first fl).toNat) (es:=(small ns first fl).map .int) (cs:= [.int first, .lst (ns.map .int)]) (N':= ["k","first","script"]) (js:= [1,0])
  (dE.cap2 (pre:= [(".0", .local),("k", .local),("_law_cell_at", .globalImplicit)]) (mid:= []) (post:= []) (rn:= [(".0", .local),("k", .local),("_law_cell_at", .globalImplicit),("first", .cell),("script", .cell)]) rfl (by decide +kernel) (by decide +kernel) (by decide +kernel) rfl rfl (by decide +kernel) (by decide +kernel) rfl (by decide +kernel) rfl rfl rfl rfl rfl rfl rfl rfl (by decide +kernel)) rfl (by decide +kernel)
  (ja.range rfl B.range (nm 3 rfl rfl) (by omega)) (Kb rfl rfl) (by unfold small; rw [ae,ae,bT,gT]) (by rw [gT]; omega) ?_ px rfl rfl (g9 rfl) ?_)
 ·intro C s₀ H₀ fp pins i d e h1 h2
  obtain⟨rfl,hi⟩:=jK h1
  unfold small at h2
  rw [aj,aj,jS hi]at h2
  cases h2
  exact az.add (az.mod (az.fdiv (az.call G1 hr (bb nx) rfl (ns,first) (bp.cons (nm 2 rfl rfl) (bp.cons (nm 1 rfl rfl) bp.nil)) trivial rfl) az.int ⟨by decide,by decide⟩) az.int (by decide)) (nm 0 rfl rfl)
 ·exact WS.freeze (i:=4) rfl (WS.one (W1.ret (nm 4 rfl rfl) rfl))
end
theorem fz.fq{f:c_}{qs:dZ}(h:fz f qs):ql ⟨f.st,f.ht,f.lf,qs⟩:=⟨h.ok.st,h.ok.ht,h.ok.lf,h.ie,a8.mpr fun q hq=>a8.mp h.ok.ok q ((h.mem q).mp hq)⟩
section
variable {ns os:List Int}{f:c_}{qs:dZ}{g:Rows}
theorem vy(on:Once ns 10)(o:gg f qs g):gg (jo ns f qs) (gC (qs.map (qi ns))) (lX ns g):=by
 have h:=Ax on o.s.fq
 refine⟨⟨h,bj (ya _) h.ie,fun q=>oH q _⟩, ?_, ?_⟩
 ·rw [xg on o.s.mem o.s.ok.ok (rL o.gd)]
  exact o.gd
 ·rw [xt,ae]
  exact o.ie
theorem B6(on:Once ns 10)(o:gg f qs g):fH eD ((fH eD (jD f g)).map fun x=>(lX ns x.1,x.2))=fH eD (jD (jo ns f qs) (lX ns g)):=by
 have e:=Aw on o (vy on o)
 have e':=(vy on o).fin.be
 have p:=(fZ (lt:=eD) (jD f g)).map fun x=>(lX ns x.1,x.2)
 exact uV (p.nodup_iff.mpr (iH e.nd)) (iH e'.nd) fun x=>p.mem_iff.trans (BE.same e e' x)
theorem z_(o:gg f qs g)(on:Once os g.length):gg f qs (jT g os):=by
 refine⟨o.s, ?_, ?_⟩
 ·rw [xP on]
  exact o.gd
 ·rw [(xM on).flatten.length_eq]
  exact o.ie
theorem CP(o:gg f qs g)(on:Once os g.length):fH eD ((fH eD (jD f g)).map fun x=>(jT x.1 os,x.2))=fH eD (jD f (jT g os)):=by
 have e:=A6 o on
 have e':=(z_ o on).fin.be
 have p:=(fZ (lt:=eD) (jD f g)).map fun x=>(jT x.1 os,x.2)
 exact uV (p.nodup_iff.mpr (iH e.nd)) (iH e'.nd) fun x=>p.mem_iff.trans (BE.same e e' x)
theorem IC{F:Rows->Rows}{f':c_}{g':Rows}(e:BE (nb f') g' ((jD f g).map fun x=>(F x.1,x.2))):((fH eD (jD f g)).map fun x=>(F x.1,x.2)).Nodup:=
 ((fZ (lt:=eD) (jD f g)).map _).nodup_iff.mpr (iH e.nd)
theorem gg.sm(o:gg f qs g):Small g:=⟨by have:=o.ie; omega,by have:=gB o.gd; have:=o.s.ok.st; omega⟩
theorem gg.of(o:gg f qs g){x:Rows×Int}(hx:x∈fH eD (jD f g)):gg f qs x.1/\x.1.length=g.length:=by
 have i:=o.fin.zZ x ((fZ _).mem_iff.mp hx)
 exact⟨⟨o.s,i.gd,by rw [i.of.1.length_eq]; exact o.ie⟩,i.of.2⟩
theorem gg.dig(o:gg f qs g): ∀r∈g,r.length<=1000/\ ∀c∈r,0<=c/\c<=9:=fun r hr=>⟨by
 have:=(List.sublist_flatten_of_mem hr).length_le
 have:=o.ie
 omega,rL o.gd r hr⟩
theorem gg.mC(o:gg f qs g):(fH eD (jD f g)).length<=160000:=by
 rw [(fZ (lt:=eD) (jD f g)).length_eq]
 exact o.fin.len
end
theorem Bq(n:Nat)(rs:Rows):D.flat (n+2) (jQ rs):=fun d hd=>by
 obtain⟨r,_,rfl⟩:=aQ.mp hd
 intro e he
 obtain⟨i,_,rfl⟩:=aQ.mp (show e∈r.map D.int from he)
 cases n <;> trivial
theorem kI(kv:l8):D.flat 60 (.lst (kv.map tV)):=fun d hd=>by
 obtain⟨x,_,rfl⟩:=aQ.mp hd
 intro e he
 have:e=jQ x.1\/e= .int x.2:=by simpa [tV]using he
 rcases this with rfl | rfl
 ·exact Bq 56 _
 ·trivial
theorem qZ(ks:List Rows):D.flat 60 (.lst (ks.map jQ)):=fun d hd=>by
 obtain⟨x,_,rfl⟩:=aQ.mp hd
 exact Bq 57 _
section
variable {P:av}{w:World}{K:Frag}{mg:Str->Option Value}{base:Heap}{C CS CT CN CO:Addr}
theorem wo(G:oU P w K mg base C CS CT):jU P w K mg base (f6 P w) 8 "heights" (fun i:c_×dZ×Rows=> [iG C i.1 i.2.1,rT i.2.2]) (fun i=>gg i.1 i.2.1 i.2.2) (fun i=> .ok (pH (jD i.1 i.2.2))):=i3 G fun i h=>⟨⟨h.s,h.sm⟩,(if_pos h.gd).trans (if_pos h.ie)⟩
theorem B3(G:qD P w K mg base C CS CT):jU P w K mg base (f6 P w) 8 "come_to" (fun i:c_×dZ×Rows=> [iG C i.1 i.2.1,rT i.2.2]) (fun i=>gg i.1 i.2.1 i.2.2) (fun i=> .ok (AL (jD i.1 i.2.2))):=i3 G fun i h=>⟨⟨h.s,h.sm⟩,(if_pos h.gd).trans (if_pos h.ie)⟩
theorem DU(G:ow P w K mg base CN):jU P w K mg base (f6 P w) 4 "renamed" (fun i:List (List Int)×List Int=> [jQ i.1, .lst (i.2.map .int)]) (fun i=>Once i.2 10/\ ∃f qs,gg f qs i.1) (fun i=> .ok (jQ (lX i.2 i.1))):=i3 G fun i ⟨h1,f,qs,h2⟩=>⟨⟨by have:=h1.len; omega,h2.sm.n,h2.dig⟩,if_pos (kz.mpr h1)⟩
theorem DH(G:lB P w K mg base CO):jU P w K mg base (f6 P w) 3 "reordered" (fun i:List (List Int)×List Int=> [jQ i.1, .lst (i.2.map .int)]) (fun i=>Once i.2 i.1.length/\ ∃f qs,gg f qs i.1) (fun i=> .ok (jQ (jT i.1 i.2))):=i3 G fun i ⟨h1,f,qs,h2⟩=>⟨⟨by have:=h1.len; have:=h2.sm.n; omega,h2.sm.n⟩,if_pos (kz.mpr h1)⟩
theorem tR(G:mE P w K mg base C CN):jU P w K mg base (f6 P w) 7 "floor_renamed" (fun i:c_×dZ×List Int=> [iG C i.1 i.2.1, .lst (i.2.2.map .int)]) (fun i=>Once i.2.2 10/\fz i.1 i.2.1) (fun i=> .ok (iG C (jo i.2.2 i.1 i.2.1) (gC (i.2.1.map (qi i.2.2))))):=i3 G fun i h=>⟨⟨by have:=h.1.len; omega,h.2.fq⟩,if_pos (kz.mpr h.1)⟩
end
theorem Nu{X:Cx}{ρ:eZ}{e:Expr}{es:List Expr}{C:Addr}{x:Str}{ns:List Str}{pos p:Pos}{CX:gM}{k:Nat}{ι:Type}{args:ι->List D}{pre:ι->Prop}{res:ι->List D->Prop}{i:ι}(F:L8 X.prog X.w X.K X.mg X.base CX k x C ns args pre res)(hr:fM (k+1) X.A)(hx:Passes CX X E0)(hg:Gl X x)(ha:bp X ρ (e::es) (args i))(hp:pre i)(hdb:(x==("__debug__":Str))=false:=by decide)
  (he:ax (e::es) X.env=(false,eval e X.env)::ax es X.env:=by rfl)(hpl:(e_ pos (ax es X.env)).any (·.1)=false:=by rfl):DP X ρ (.Call (.Name x p) (e::es) [] pos) (fun d=> ∃ds,d= .ins C ns ds/\res i ds):=DP.make F hr hx hg i ha hp hdb he hpl
section
variable {P:av}{w:World}{K:Frag}{mg:Str->Option Value}{base:Heap}{C CS CT CN CO:Addr}
theorem Iq:bQ ["script","floor","goal","made","names","order","told","other","due"] ["script"] (aL Fe):=⟨rfl,rfl,rfl,by decide +kernel,rfl,by decide +kernel,by decide +kernel⟩
theorem pF{α β:Type}{kv:List α}{a:α->β}{i:Nat}{d:β}(h:(kv.map a)[i]? =some d): ∃x,x∈kv/\kv[i]? =some x/\d=a x:=by
 rw [aj]at h
 cases e:kv[i]? with
 | none=>rw [e]at h; cases h
 | some x=>rw [e]at h; exact⟨x,aT e,rfl,(aA h).symm⟩
set_option maxHeartbeats 4000000 in
theorem Jf{f:Addr}{fd:bg}(B:Bm mg)(G1:yf P w K mg base (f6 P w))(G2:zX P w K mg base (f6 P w))(G3:ph P w K mg base (f6 P w))(G4:zj P w K mg base (f6 P w))(G5:AA P w K mg base (f6 P w) C)(G6:zu P w K mg base (f6 P w))(G7':oU P w K mg base C CS CT)(G8':qD P w K mg base C CS CT)(G9':mE P w K mg base C CN)(GA':ow P w K mg base CN)(GB':lB P w K mg base CO)
  (F:ji K "law" "law" Fe f fd):lN P w K mg base (f6 P w) 9 f fd ["script"] (AN K):=by
 have nx:NX (f6 P w):=i_
 have G7:=wo G7'
 have G8:=B3 G8'
 have G9:=tR G9'
 have GA:=DU GA'
 have GB:=DH GB'
 refine Be F Iq (fun i=>rfl) fun cdv A outer s H E ns M0 hp hr=>⟨_,rfl, ?_⟩
 have px:=Iq.nd
 have hr1:fM 1 _:=hr.mono (by decide)
 have hr2:fM 2 _:=hr.mono (by decide)
 have hr3:fM 3 _:=hr.mono (by decide)
 have hr4:fM 4 _:=hr.mono (by decide)
 have hr6:fM 6 _:=hr.mono (by decide)
 have hr7:fM 7 _:=hr.mono (by decide)
 have hu:=xj hr
 have hu4:=Gf hu
 have hu8:(A.deeper (o4 "law" (aL Fe) s.heap.objs.size f cdv)).units+8 < cLine:=by omega
 change WS _ M0 H (bt Fe) [.im (.lst (ns.map .int)), .un, .un, .un, .un, .un, .un, .un, .un] {N:=fun _=>D.bl true= .non,R:=fun d'=>d'= .bl true}
 refine WS.cons (W1.set (i:=1) px rfl (.inl rfl) (g9 rfl) (az.call G2 hr2 (bb nx) rfl (ns,0,5) (bp.cons (nm 0 rfl rfl) (bp.cons az.int (bp.cons az.int bp.nil))) ⟨show 0 < 5 by decide,show 5 < 1000 by decide⟩ rfl) ?_)
 have hF:=Ha ns
 generalize rk ns 0 5=fl at hF
 have f1:2<=fl.st/\fl.st<=4:=hF.st
 have f2:1<=fl.ht/\fl.ht<=6:=hF.ht
 have hsl:=Ca ns 7 fl
 refine WS.cons (W1.set (i:=2) px rfl (.inl rfl) (g9 rfl) (az.call G3 hr2 (bb nx) rfl (fl,cellAt ns 8 % 2147483647,small ns 7 fl) (bp.cons (nm 1 rfl rfl) (bp.cons (az.mod (az.call G1 hr1 (bb nx) rfl (ns,8) (bp.cons (nm 0 rfl rfl) (bp.cons az.int bp.nil)) trivial rfl) az.int (by decide)) (bp.cons (az.call G4 hr2 (bb nx) rfl (ns,7,fl) (bp.cons (nm 0 rfl rfl) (bp.cons az.int (bp.cons (nm 1 rfl rfl) bp.nil))) trivial rfl) bp.nil))) ⟨f1.1,f1.2,bj hsl (by decide)⟩ rfl) ?_)
 have hgg:=t9 (f:=fl) (cell:=cellAt ns 8 % 2147483647) (crates:=small ns 7 fl) (by omega) (by omega)
 have hgf:=bj (vn fl (cellAt ns 8 % 2147483647) (small ns 7 fl)) hsl
 generalize eC fl (cellAt ns 8 % 2147483647) (small ns 7 fl)=g at hgg hgf
 have hS:fz fl (gC fl.eE):=⟨hF,bj (ya _) hF.ie,fun p=>oH p _⟩
 have o:gg fl (gC fl.eE) g:=⟨hS,hgg,hgf⟩
 refine WS.cons (W1.set (i:=3) (d:=iG C fl (gC fl.eE)) px rfl (.inl rfl) (g9 rfl) (DP.exact (d:=iG C fl (gC fl.eE)) (Nu (i:=fl) G5 hr6 (bb nx) rfl (bp.cons (az.ixT (nm 1 rfl rfl) az.int rfl) (bp.cons (az.ixT (nm 1 rfl rfl) az.int rfl) (bp.cons (az.ixT (nm 1 rfl rfl) az.int rfl) (bp.cons (ef.toD (ef.listL rfl B.list (az.r (az.ixT (nm 1 rfl rfl) az.int rfl)))) bp.nil)))) hF) fun d' ⟨ds,e1,qs,e2,e3⟩=>by subst e1 e2 e3; rfl) ?_)
 refine WS.cons (W1.set (i:=4) px rfl (.inr rfl) (g9 rfl) (az.call G6 hr1 (bb nx) rfl (10,cellAt ns 9 % 2147483647) (bp.cons az.int (bp.cons (az.mod (az.call G1 hr1 (bb nx) rfl (ns,9) (bp.cons (nm 0 rfl rfl) (bp.cons az.int bp.nil)) trivial rfl) az.int (by decide)) bp.nil)) (show 10<=100 by decide) rfl) ?_)
 have on:Once (drawn 10 (cellAt ns 9 % 2147483647)) 10:=qP _ _
 generalize drawn 10 (cellAt ns 9 % 2147483647)=nms at on
 have est:fl.st=((fl.st.toNat:Nat):Int):=by omega
 refine WS.cons (W1.set (i:=5) px rfl (.inr rfl) (g9 rfl) (az.call G6 hr1 (bb nx) rfl (fl.st.toNat,cellAt ns 10 % 2147483647) (bp.cons (az.to (az.ixT (nm 1 rfl rfl) az.int rfl) (congrArg D.int est)) (bp.cons (az.mod (az.call G1 hr1 (bb nx) rfl (ns,10) (bp.cons (nm 0 rfl rfl) (bp.cons az.int bp.nil)) trivial rfl) az.int (by decide)) bp.nil)) (show fl.st.toNat<=100 by omega) rfl) ?_)
 have oo:Once (drawn fl.st.toNat (cellAt ns 10 % 2147483647)) g.length:=by
  have:=qP fl.st.toNat (cellAt ns 10 % 2147483647)
  rw [show g.length=fl.st.toNat by have:=gB hgg; omega]
  exact this
 generalize drawn fl.st.toNat (cellAt ns 10 % 2147483647)=ord at oo
 refine WS.cons (W1.set (i:=6) px rfl (.inl rfl) (g9 rfl) (az.call G7 hr (bb nx) rfl (fl,gC fl.eE,g) (bp.cons (nm 3 rfl rfl) (bp.cons (nm 2 rfl rfl) bp.nil)) o rfl) ?_)
 refine WS.cons (W1.set (i:=7) px rfl (.inl rfl) (g9 rfl) (az.call G9 hr7 (bb nx) rfl (fl,gC fl.eE,nms) (bp.cons (nm 3 rfl rfl) (bp.cons (nm 4 rfl rfl) bp.nil)) ⟨on,hS⟩ rfl) ?_)
 have e1:=B6 on o
 have n1:=IC (F:=lX nms) (Aw on o (vy on o))
 have e2:=CP o oo
 have n2:=IC (F:=fun x=>jT x ord) (A6 o oo)
 have hof: ∀x∈fH eD (jD fl g),gg fl (gC fl.eE) x.1/\x.1.length=g.length:=fun x hx=>o.of hx
 have hsz:=o.mC
 have hk:=BV (z_ o oo).fin.be.nd
 have o1:=vy on o
 have o2:=z_ o oo
 have l2:(fH eD (jD fl (jT g ord))).length<=160000:=o2.mC
 refine WS.cons (W1.set (i:=8) px rfl (.inl rfl) (g9 rfl) (ef.toD (ef.sortedItL (kv:=(fH eD (jD fl g)).map fun x=>(lX nms x.1,x.2)) hu8 n1 (by rw [ae]; unfold sizeLine; omega) rfl B.sorted (az.r (ef.toD (ef.comp (ds:=(fH eD (jD fl g)).map tV) (es:=((fH eD (jD fl g)).map fun x=>(lX nms x.1,x.2)).map tV) (cs:= [.lst (nms.map .int)]) (N':= ["pair","names"]) (js:= [4])
  (dE.cap1 (pre:= [(".0", .local),("pair", .local),("renamed", .globalImplicit)]) (post:= []) (rn:= [(".0", .local),("pair", .local),("renamed", .globalImplicit),("names", .cell)]) rfl (by decide +kernel) (by decide +kernel) rfl (by decide +kernel) rfl (by decide +kernel) rfl rfl rfl rfl rfl (by decide +kernel)) rfl (by decide +kernel)
  (ja.list (nm 6 rfl rfl)) (si rfl) (by simp) (by rw [ae]; omega) ?_))))) ?_)
 ·intro C' s₀ H₀ fp pins i d e h1 h2
  obtain⟨x,hx,ex,rfl⟩:=pF h1
  rw [bV,aj,ex]at h2
  cases h2
  exact az.tup (bp.cons (az.call GA hr4 (bb nx) rfl (x.1,nms) (bp.cons (az.ixT (nm 0 rfl rfl) az.int rfl) (bp.cons (nm 1 rfl rfl) bp.nil)) ⟨on,_,_,(hof x hx).1⟩ rfl) (bp.cons (az.ixT (nm 0 rfl rfl) az.int rfl) bp.nil))
 rw [e1]
 refine WS.cons (W1.ite (c8.ne hu4 (az.r (az.call G7 hr (bb nx) rfl (jo nms fl (gC fl.eE),gC ((gC fl.eE).map (qi nms)),lX nms g) (bp.cons (nm 7 rfl rfl) (bp.cons (az.call GA hr4 (bb nx) rfl (g,nms) (bp.cons (nm 2 rfl rfl) (bp.cons (nm 4 rfl rfl) bp.nil)) ⟨on,_,_,o⟩ rfl) bp.nil)) o1 rfl)) (az.r (nm 8 rfl rfl)) (kI _) (kI _)) (fun h=> ?_) fun h=>WS.nil ?_)
 ·exact absurd h (by rw [show D.eqv (pH (jD (jo nms fl (gC fl.eE)) (lX nms g))) (.lst ((fH eD (jD (jo nms fl (gC fl.eE)) (lX nms g))).map tV))=true from rZ (kI _)]; decide)
 refine WS.cons (W1.set (i:=8) px rfl (.inl rfl) (g9 rfl) (ef.toD (ef.sortedItL (kv:=(fH eD (jD fl g)).map fun x=>(jT x.1 ord,x.2)) hu8 n2 (by rw [ae]; unfold sizeLine; omega) rfl B.sorted (az.r (ef.toD (ef.comp (ds:=(fH eD (jD fl g)).map tV) (es:=((fH eD (jD fl g)).map fun x=>(jT x.1 ord,x.2)).map tV) (cs:= [.lst (ord.map .int)]) (N':= ["pair","order"]) (js:= [5])
  (dE.cap1 (pre:= [(".0", .local),("pair", .local),("reordered", .globalImplicit)]) (post:= []) (rn:= [(".0", .local),("pair", .local),("reordered", .globalImplicit),("order", .cell)]) rfl (by decide +kernel) (by decide +kernel) rfl (by decide +kernel) rfl (by decide +kernel) rfl rfl rfl rfl rfl (by decide +kernel)) rfl (by decide +kernel)
  (ja.list (nm 6 rfl rfl)) (si rfl) (by simp) (by rw [ae]; omega) ?_))))) ?_)
 ·intro C' s₀ H₀ fp pins i d e h1 h2
  obtain⟨x,hx,ex,rfl⟩:=pF h1
  rw [bV,aj,ex]at h2
  cases h2
  exact az.tup (bp.cons (az.call GB hr3 (bb nx) rfl (x.1,ord) (bp.cons (az.ixT (nm 0 rfl rfl) az.int rfl) (bp.cons (nm 1 rfl rfl) bp.nil)) ⟨by rw [(hof x hx).2]; exact oo,_,_,(hof x hx).1⟩ rfl) (bp.cons (az.ixT (nm 0 rfl rfl) az.int rfl) bp.nil))
 rw [e2]
 refine WS.cons (W1.ite (c8.ne hu4 (az.r (az.call G7 hr (bb nx) rfl (fl,gC fl.eE,jT g ord) (bp.cons (nm 3 rfl rfl) (bp.cons (az.call GB hr3 (bb nx) rfl (g,ord) (bp.cons (nm 2 rfl rfl) (bp.cons (nm 5 rfl rfl) bp.nil)) ⟨oo,_,_,o⟩ rfl) bp.nil)) o2 rfl)) (az.r (nm 8 rfl rfl)) (kI _) (kI _)) (fun h=> ?_) fun h=>WS.nil ?_)
 ·exact absurd h (by rw [show D.eqv (pH (jD fl (jT g ord))) (.lst ((fH eD (jD fl (jT g ord))).map tV))=true from rZ (kI _)]; decide)
 refine WS.one (W1.ret (az.eq hu4 (az.r (az.call G8 hr (bb nx) rfl (fl,gC fl.eE,jT g ord) (bp.cons (nm 3 rfl rfl) (bp.cons (az.call GB hr3 (bb nx) rfl (g,ord) (bp.cons (nm 2 rfl rfl) (bp.cons (nm 5 rfl rfl) bp.nil)) ⟨oo,_,_,o⟩ rfl) bp.nil)) o2 rfl)) (az.r (ef.toD (ef.comp (ds:=(fH eD (jD fl (jT g ord))).map tV) (es:=((fH eD (jD fl (jT g ord))).map (·.1)).map jQ) (cs:= []) (dE.closed (by decide +kernel) (by decide +kernel) rfl (by decide +kernel) rfl) rfl (by decide +kernel) (ja.list (nm 8 rfl rfl)) r6 (by simp) (by rw [ae]; omega) ?_))) (qZ _) (qZ _)) ?_)
 ·intro C' s₀ H₀ fp pins i d e h1 h2
  obtain⟨x,hx,ex,rfl⟩:=pF h1
  rw [bV,aj,ex]at h2
  cases h2
  exact az.ixT (nm 0 rfl rfl) az.int rfl
 ·show D.bl (D.eqv _ _)=D.bl true
  rw [hk]
  exact congrArg D.bl (rZ (qZ _))
end
end K
namespace Z
open PySem PySem.Spec PyProof.Rows L2
section
variable {K:Frag}{x q:Str}{st:Stmt}{f C:Addr}{fd:bg}{a b c d e:Str}
def dU(K:Frag)(x:Str)(st:Stmt):Prop:= ∃f fd,fx K cm x=some (some (.ref f))/\ji K x x st f fd
theorem Jb{oc:Value}{od an:Option Addr}{osl:Array (Option Value)}{kV doc pm cdv ct:Value}(a:fx K cm x=some (some (.ref f)))(l:K.lookup f=some ⟨oc,od, .func (eI x x (iY st) (bt st) (aL st) .none kV doc pm an cdv ct),osl⟩)
  (c:nY K cdv x=true)(k:fS K (.ref f)=true):dU K x st:=⟨f,_,a,Ek l c k⟩
theorem dU.get{h:Heap}{mg:Str->Option Value}(d:dU K x st)(KX:K.In h)(G:h.Ns cm mg): ∃f fd,mg x=some (.ref f)/\ji K x x st f fd:=let⟨f,fd,a,F⟩:=d; ⟨f,fd,jn KX G a,F⟩
def MethAt(K:Frag)(C:Addr)(x q:Str)(st:Stmt):Prop:= ∃f fd,cn K (.ref C) x=some (some (.ref f))/\qo K (.ref f)=true/\ji K x q st f fd
theorem HN{oc:Value}{od an:Option Addr}{osl:Array (Option Value)}{kV doc pm cdv ct:Value}(a:cn K (.ref C) x=some (some (.ref f)))(i:qo K (.ref f)=true)(l:K.lookup f=some ⟨oc,od, .func (eI x q (iY st) (bt st) (aL st) .none kV doc pm an cdv ct),osl⟩)
  (c:nY K cdv q=true)(k:fS K (.ref f)=true):MethAt K C x q st:=⟨f,_,a,i,Ek l c k⟩
def nO(K:Frag)(x:Str):Prop:=fx K cm x=some none
def kL(K:Frag)(x:Str)(z:Int):Prop:= ∃t,fx K cm x=some (some (.int z t))
theorem int_mk{v:Value}{z:Int}(g:fx K cm x=some (some v))(h: ∃t,v= .int z t):kL K x z:=let⟨t,e⟩:=h; ⟨t,e▸g⟩
theorem F_(F:ji K x q st f fd)(h: ∀(kV doc pm:Value) (an:Option Addr) (cdv ct v:Value),wB (eI x q (iY st) (bt st) (aL st) .none kV doc pm an cdv ct) ⟨[v], []⟩=pure [(a,v)]:=by intros; rfl):Binds K fd [a] []:=F.binds fun _ _ _ _ _ _ us hl=>by
 obtain⟨_,rfl⟩:=Ly us hl
 exact h ..
theorem yi(F:ji K x q st f fd)(h: ∀(kV doc pm:Value) (an:Option Addr) (cdv ct v v2:Value),wB (eI x q (iY st) (bt st) (aL st) .none kV doc pm an cdv ct) ⟨[v,v2], []⟩=pure [(a,v),(b,v2)]:=by intros; rfl):Binds K fd [a,b] []:=F.binds fun _ _ _ _ _ _ us hl=>by
 obtain⟨_,_,rfl⟩:=LX us hl
 exact h ..
theorem J6(F:ji K x q st f fd)(h: ∀(kV doc pm:Value) (an:Option Addr) (cdv ct v v2 v3:Value),wB (eI x q (iY st) (bt st) (aL st) .none kV doc pm an cdv ct) ⟨[v,v2,v3], []⟩=pure [(a,v),(b,v2),(c,v3)]:=by intros; rfl):Binds K fd [a,b,c] []:=F.binds fun _ _ _ _ _ _ us hl=>by
 obtain⟨_,_,_,rfl⟩:=L7 us hl
 exact h ..
theorem Nr(F:ji K x q st f fd)(h: ∀(kV doc pm:Value) (an:Option Addr) (cdv ct v v2 v3 v4 v5:Value),wB (eI x q (iY st) (bt st) (aL st) .none kV doc pm an cdv ct) ⟨[v,v2,v3,v4,v5], []⟩=pure [(a,v),(b,v2),(c,v3),(d,v4),(e,v5)]:=by intros; rfl):Binds K fd [a,b,c,d,e] []:=F.binds fun _ _ _ _ _ _ us hl=>by
 obtain⟨_,_,_,_,_,rfl⟩:=LB us hl
 exact h ..
end
end Z
namespace K
open PySem L2 Z
theorem all_mk{l:IJ}{w:World}{K:Frag}{h:Heap}{mg:Str->Option Value}{fa:Addr}(KX:K.In h)(G:h.Ns cm mg)(hfa:mg "law"=some (.ref fa))
  {cw fO jB jC mX:Addr}
  (sv:fx K cm "Floor"=some (some (.ref cw)))
  (D0:dU K "_law_cell_at" E7)
  (D1:dU K "_law_floor" zP)
  (D2:dU K "_law_good" E4)
  (D3:dU K "_law_standing" mH)
  (D4:dU K "is_within" vI)
  (D5:dU K "is_crate" Aa)
  (D6:dU K "is_ban" z7)
  (D7:dU K "are_bans" rf)
  (D8:dU K "is_good_stack" lh)
  (D9:dU K "is_good" qC)
  (Mp:dU K "is_stack" oO)
  (Mq:dU K "can_be_done" HJ)
  (Mr:dU K "moved" vo)
  (Ms:dU K "is_let" vY)
  (Mt:dU K "refuse_unless_good" oM)
  (Mu:dU K "lifts" rK)
  (Mv:dU K "crates_of" mV)
  (Mw:dU K "refuse_too_many" lY)
  (Mx:dU K "heights_above" sg)
  (My:dU K "come_to" lx)
  (Mz:dU K "heights" jH)
  (MA:dU K "has_each_once" Bt)
  (MB:dU K "refuse_unless_names" rF)
  (MC:dU K "stack_renamed" mM)
  (MD:dU K "renamed" l_)
  (ME:dU K "reordered" jG)
  (MF:dU K "floor_renamed" jz)
  (MG:dU K "_law_small" vk)
  (MH:dU K "_law_order" vc)
  (MI:dU K "law" Fe)
  (sA:MethAt K cw "__init__" "Floor.__init__" xS)
  (sC:MethAt K cw "stacks" "Floor.stacks" (C3 1))
  (sD:MethAt K cw "height" "Floor.height" (C3 2))
  (sE:MethAt K cw "lift" "Floor.lift" (C3 3))
  (sF:MethAt K cw "bans" "Floor.bans" (C3 4))
  (sG:lO K cw Str.empty=true)
  (sH:qm K cw=true)
  (sI:Gd K cw=true)
  (sJ:cn K (.ref cw) "__setattr__"=some (some (.builtin "object.__setattr__")))
  (sL:II K cw=true)
  (sM:fS K (.ref cw)=true)
  (gN:cn K (.ref cw) "stack_count"=some none)
  (gO:cn K (.ref cw) "most_crates"=some none)
  (fP:cn K (.ref cw) "crane_strength"=some none)
  (gE:cn K (.ref cw) "banned_pairs"=some none)
  (kh:fx K cm "NoStanding"=some (some (.ref fO)))
  (nQ:fx K cm "TooMany"=some (some (.ref jB)))
  (nR:fx K cm "NoNames"=some (some (.ref jC)))
  (nS:fx K cm "NoOrder"=some (some (.ref mX)))
  (ki:ic K fO y9 "ValueError.__new__"=true)
  (nU:ic K jB y9 "ValueError.__new__"=true)
  (nV:ic K jC y9 "ValueError.__new__"=true)
  (nW:ic K mX y9 "ValueError.__new__"=true)
  (Fy:nO K "len")
  (wu:nO K "range")
  (Ac:nO K "list")
  (wx:nO K "tuple")
  (Fz:nO K "set")
  (lD:nO K "isinstance")
  (FA:nO K "int")
  (Ad:nO K "bool")
  (FC:nO K "all")
  (FD:nO K "any")
  (FE:nO K "zip")
  (sN:nO K "sorted")
  (FF:nO K "min")
  (jc:kL K "FEWEST_STACKS" 2)
  (kj:kL K "MOST_STACKS" 4)
  (jd:kL K "LOWEST_HEIGHT" 1)
  (iy:kL K "GREATEST_HEIGHT" 6)
  (je:kL K "WEAKEST_CRANE" 1)
  (iz:kL K "STRONGEST_CRANE" 3)
  (mj:kL K "MOST_BANS" 20)
  (kl:kL K "FIRST_CRATE" 0)
  (lE:kL K "LAST_CRATE" 9)
  (km:kL K "MOST_CRATES" 4)
  (kn:kL K "CRATE_COUNT" 10):
  ∃fd:bg,(∀(s:ai) (v:Value),BindsTo s fd ⟨[v], []⟩ [("script",v)])/\ ∀base:Heap,K.In base->base.Ns cm mg->lN l.prog w K mg base (f6 l.prog w) 9 fa fd ["script"] (AN K):=by
 obtain⟨_,_,m0,F0⟩:=D0.get KX G
 obtain⟨_,_,m1,F1⟩:=D1.get KX G
 obtain⟨_,_,m2,F2⟩:=D2.get KX G
 obtain⟨_,_,m3,F3⟩:=D3.get KX G
 obtain⟨_,_,m4,F4⟩:=D4.get KX G
 obtain⟨_,_,m5,F5⟩:=D5.get KX G
 obtain⟨_,_,m6,F6⟩:=D6.get KX G
 obtain⟨_,_,m7,F7⟩:=D7.get KX G
 obtain⟨_,_,m8,F8⟩:=D8.get KX G
 obtain⟨_,_,m9,F9⟩:=D9.get KX G
 obtain⟨_,_,Nz,MW⟩:=Mp.get KX G
 obtain⟨_,_,NA,MX⟩:=Mq.get KX G
 obtain⟨_,_,NB,MY⟩:=Mr.get KX G
 obtain⟨_,_,NC,MZ⟩:=Ms.get KX G
 obtain⟨_,_,ND,M1⟩:=Mt.get KX G
 obtain⟨_,_,NF,M3⟩:=Mu.get KX G
 obtain⟨_,_,NG,M4⟩:=Mv.get KX G
 obtain⟨_,_,NH,M5⟩:=Mw.get KX G
 obtain⟨_,_,NI,M6⟩:=Mx.get KX G
 obtain⟨_,_,NJ,M7⟩:=My.get KX G
 obtain⟨_,_,NK,M8⟩:=Mz.get KX G
 obtain⟨_,_,NL,M9⟩:=MA.get KX G
 obtain⟨_,_,NM,M_⟩:=MB.get KX G
 obtain⟨_,_,NN,Na⟩:=MC.get KX G
 obtain⟨_,_,NO,Nb⟩:=MD.get KX G
 obtain⟨_,_,NP,Nc⟩:=ME.get KX G
 obtain⟨_,_,NQ,Nd⟩:=MF.get KX G
 obtain⟨_,_,NR,Nf⟩:=MG.get KX G
 obtain⟨_,_,NS,Ng⟩:=MH.get KX G
 obtain⟨_,fd,NT,Nh⟩:=MI.get KX G
 cases hfa.symm.trans NT
 obtain⟨_,_,FG,FH,yG⟩:=sA
 obtain⟨_,_,FI,FJ,sO⟩:=sC
 obtain⟨_,_,FK,FL,sP⟩:=sD
 obtain⟨_,_,FO,FP,sQ⟩:=sE
 obtain⟨_,_,FQ,FR,sR⟩:=sF
 have nx:NX (f6 l.prog w):=i_
 have ci: ∀{x:Str} {z:Int},kL K x z-> ∃t,mg x=some (.int z t):=fun⟨t,g⟩=>⟨t,jn KX G g⟩
 have un: ∀{x:Str},nO K x->mg x=none:=fun z=>PySem.W.mg_none_of KX G z
 have FT:=jn KX G sv
 have FU:zq K cw:=⟨sG,sH,sI,sJ⟩
 have ub:=jn KX G kh
 have Ae:=jn KX G nQ
 have Af:=jn KX G nR
 have Ag:=jn KX G nS
 have B:Bm mg:={len:=un Fy,range:=un wu,list:=un Ac,tuple:=un wx,set:=un Fz,yb:=un lD,int:=un FA,bool:=un Ad,all:=un FC,any:=un FD,zip:=un FE,sorted:=un sN,min:=un FF,ie:=ci jc,most:=ci kj,low:=ci jd,great:=ci iy,weak:=ci je,EV:=ci iz,Iz:=ci mj,fst:=ci kl,lst:=ci lE}
 have T:Jp K cw:=⟨FU,gN,gO,fP,gE⟩
 refine⟨fd,fun s v=> ?_,fun base KB GB=> ?_⟩
 ·obtain⟨_,_,_,_,_,_,_,_,_,rfl,_⟩:=Nh.ex
  exact .of_eq rfl
 have G0:yf l.prog w K mg base (f6 l.prog w):=Hz B.toBn F0 m0 (yi F0)
 have G1:zX l.prog w K mg base (f6 l.prog w):=DL nx B.toBn G0 F1 m1 (J6 F1)
 have G2:Ea l.prog w K mg base (f6 l.prog w):=HM nx B.toBn F2 m2 (yi F2)
 have G3:ph l.prog w K mg base (f6 l.prog w):=yD nx B.toBn G2 F3 m3 (J6 F3)
 have G4:lu l.prog w K mg base (f6 l.prog w):=B9 B F4 m4 (J6 F4)
 have G5:va l.prog w K mg base (f6 l.prog w):=DJ nx B G4 F5 m5 (F_ F5)
 have G6:y8 l.prog w K mg base (f6 l.prog w):=E9 nx B G5 F6 m6 (F_ F6)
 have G7:qY l.prog w K mg base (f6 l.prog w):=zF nx B G6 F7 m7 (F_ F7)
 have L:Fl l.prog w K mg base (f6 l.prog w) cw:=⟨T,CF T sO ⟨FI,FJ,sO.kp⟩ (F_ sO),CQ T sP ⟨FK,FL,sP.kp⟩ (F_ sP),GZ T sQ ⟨FO,FP,sQ.kp⟩ (F_ sQ),Hy B T sR ⟨FQ,FR,sR.kp⟩ (F_ sR)⟩
 have GM:AA l.prog w K mg base (f6 l.prog w) cw:=Hn nx B T G4 G7 yG ⟨sL,FG,FH,sM⟩ FT (Nr yG)
 have G8:nM l.prog w K mg base (f6 l.prog w) cw:=vx nx B L G5 F8 m8 (yi F8)
 have G9:qB l.prog w K mg base (f6 l.prog w) cw:=BW nx B L G8 F9 m9 (yi F9)
 have NU:r8 l.prog w K mg base (f6 l.prog w) cw:=zk nx L G4 MW Nz (yi MW)
 have NV:JV l.prog w K mg base (f6 l.prog w) cw:=Jm nx B L NU G4 MX NA (J6 MX)
 have Ni:vm l.prog w K mg base (f6 l.prog w):=DI B MY NB (yi MY)
 have NW:zw l.prog w K mg base (f6 l.prog w) cw:=Ey nx NV G9 Ni MZ NC (J6 MZ)
 have NY:tP "NoStanding" fO mg base:=qJ KB ub ki
 have NZ:tP "NoNames" jC mg base:=qJ KB Af nV
 have N1:tP "NoOrder" mX mg base:=qJ KB Ag nW
 have EM:tP "TooMany" jB mg base:=qJ KB Ae nU
 have MJ:kA l.prog w K mg base cw fO:=z5 NY G9 M1 ND (yi M1)
 have N2:vT l.prog w K mg base cw fO:=BD B L MJ NW M3 NF (yi M3)
 have GL:zp l.prog w K mg base (f6 l.prog w) cw:=zo N2
 have N3:pb l.prog w K mg base (f6 l.prog w):=xb B M4 NG (F_ M4)
 have Nj:oE l.prog w K mg base jB:=zM EM (ci km) B N3 M5 NH (F_ M5)
 have Nk:v_ l.prog w K mg base (f6 l.prog w) cw:=Eg nx B GL Ni M6 NI (yi M6)
 have N4:qD l.prog w K mg base cw fO jB:=Cd B MJ Nj Nk M7 NJ (yi M7)
 have N5:oU l.prog w K mg base cw fO jB:=zr B MJ Nj Nk M8 NK (yi M8)
 have Nl:Bl l.prog w K mg base (f6 l.prog w):=HR nx B G4 M9 NL (yi M9)
 have Nm:rq l.prog w K mg base jC:=Ej (ci kn) NZ Nl M_ NM (F_ M_)
 have N6:pM l.prog w K mg base (f6 l.prog w):=wZ B Na NN (yi Na)
 have N7:ow l.prog w K mg base jC:=zx B Nm N6 Nb NO (yi Nb)
 have N8:lB l.prog w K mg base mX:=vN B N1 Nl Nc NP (yi Nc)
 have N9:mE l.prog w K mg base cw jC:=xn B L GM Nm Nd NQ (yi Nd)
 have N_:zj l.prog w K mg base (f6 l.prog w):=EJ nx B G0 Nf NR (J6 Nf)
 have Oa:zu l.prog w K mg base (f6 l.prog w):=Fu B Ng NS (yi Ng)
 exact Jf B G0 G1 G3 N_ GM Oa N5 N4 N9 N7 N8 Nh
end K
open PySem PySem.W PyProof.Rows
def PySem.W.Fast.tw2902412626347753802:Unit:=()
def PySem.W.Fast.tw17924413656947586530:Unit:=()
def PySem.W.Fast.tw1639787417798290365:Unit:=()
def PySem.W.Fast.tw15006800982790701511:Unit:=()
def PySem.W.Fast.tw12676731779123613601:Unit:=()
def PySem.W.Fast.tw17424376295992234985:Unit:=()
def PySem.W.Fast.tw5837492132608179671:Unit:=()
def PySem.W.Fast.tw8276985335483618834:Unit:=()
def PySem.W.Fast.tw13653410151878906190:Unit:=()
def PySem.W.Fast.tw9545920118662014897:Unit:=()
def PySem.W.Fast.tw15137622663338780188:Unit:=()
def PySem.W.Fast.tw10552224945395097366:Unit:=()
def PySem.W.Fast.tw12542475896073623363:Unit:=()
def PySem.W.Fast.tw3583541744020521066:Unit:=()
def PySem.W.Fast.tw4740703590558931806:Unit:=()
def PySem.W.Fast.tw1059142568800741840:Unit:=()
def PySem.W.Fast.tw6605462592211093802:Unit:=()
def PySem.W.Fast.tw2473363502470110261:Unit:=()
def PySem.W.Fast.tw13081758805920376168:Unit:=()
def PySem.W.Fast.tw11648141502167965546:Unit:=()
def PySem.W.Fast.tw8933407850947355504:Unit:=()
def PySem.W.Fast.tw7199818405484784255:Unit:=()
def PySem.W.Fast.tw4598391380164075693:Unit:=()
def PySem.W.Fast.tw2021239370747755369:Unit:=()
def PySem.W.Fast.tw2067994693362339678:Unit:=()
def PySem.W.Fast.tw11625111929550720756:Unit:=()
def PySem.W.Fast.tw13267325898277410175:Unit:=()
def PySem.W.Fast.tw12485889466857108211:Unit:=()
def PySem.W.Fast.tw12048586527391165196:Unit:=()
def PySem.W.Fast.tw2300744059835722383:Unit:=()
def PySem.W.Fast.tw1430204524839607659:Unit:=()
def PySem.W.Fast.tw14072558290693229078:Unit:=()
def PySem.W.Fast.tw2976395243014293705:Unit:=()
def PySem.W.Fast.tw10828144965039803761:Unit:=()
def PySem.W.Fast.tw16997874372564177604:Unit:=()
def PySem.W.Fast.tw18407818920324093290:Unit:=()
def PySem.W.Fast.tw6160178149070822423:Unit:=()
def PySem.W.Fast.tw16862353685325188438:Unit:=()
def PySem.W.Fast.tw9470999103767128117:Unit:=()
def PySem.W.Fast.tw8120889174727641921:Unit:=()
def PySem.W.Fast.tw10418484503844902253:Unit:=()
def PySem.W.Fast.tw1870425889158471463:Unit:=()
def PySem.W.Fast.tw16910479614222327980:Unit:=()
def PySem.W.Fast.tw1131291441973368194:Unit:=()
def PySem.W.Fast.tw6003498035731617282:Unit:=()
def PySem.W.Fast.tw3427264698008894214:Unit:=()
def PySem.W.Fast.tw9425180394961944025:Unit:=()
def PySem.W.Fast.tw7054790312014083468:Unit:=()
def PySem.W.Fast.tw14034260065391866238:Unit:=()
def PySem.W.Fast.tw15162153317179741604:Unit:=()
def PySem.W.Fast.tw10546386182242233587:Unit:=()
def PySem.W.Fast.tw105596301642559317:Unit:=()
def PySem.W.Fast.tw9592260649563219595:Unit:=()
def PySem.W.Fast.tw10969426939478434857:Unit:=()
def PySem.W.Fast.tw3120992934150758223:Unit:=()
def PySem.W.Fast.tw14164416753399276747:Unit:=()
def PySem.W.Fast.tw17435193008708613649:Unit:=()
def PySem.W.Fast.tw2328050856598666941:Unit:=()
def PySem.W.Fast.tw12470851841200529216:Unit:=()
def PySem.W.Fast.tw14195065766521908562:Unit:=()
def PySem.W.Fast.tw1426821917844043956:Unit:=()
def PySem.W.Fast.tw9499946644096771245:Unit:=()
def PySem.W.Fast.tw1982362987136097425:Unit:=()
def PySem.W.Fast.tw14122473114651246769:Unit:=()
def PySem.W.Fast.tw15186325008439876749:Unit:=()
def PySem.W.Fast.tw17076189568526729386:Unit:=()
def PySem.W.Fast.tw5876912710304041368:Unit:=()
set_option maxRecDepth 100000 in
set_option maxHeartbeats 0 in
theorem PySem.Challenge.cw_cranefloor_k09_whole_heights_renamed_holds : PySem.Challenge.rw_cranefloor_k09_whole_heights_renamed.Holds := by
 w_on; o_law; k_head; (case hw=>w_witness2)
 k_fill
 refine Z.DG (k:=9) (l:=PySem.Challenge.rw_cranefloor_k09_whole_heights_renamed) ⟨rfl,by decide,by decide⟩ rfl rfl (fun w h Y=>PySem.W.kIn_of Y) ?F
 case F=>
  intro w mg fa h KX G hmg
  refine' K.all_mk KX G hmg ?sv ?D0 ?D1 ?D2 ?D3 ?D4 ?D5 ?D6 ?D7 ?D8 ?D9 ?Mp ?Mq ?Mr ?Ms ?Mt ?Mu ?Mv ?Mw ?Mx ?My ?Mz ?MA ?MB ?MC ?MD ?ME ?MF ?MG ?MH ?MI ?sA ?sC ?sD ?sE ?sF ?sG ?sH ?sI ?sJ ?sL ?sM ?gN ?gO ?fP ?gE ?kh ?nQ ?nR ?nS ?ki ?nU ?nV ?nW ?Fy ?wu ?Ac ?wx ?Fz ?lD ?FA ?Ad ?FC ?FD ?FE ?sN ?FF ?jc ?kj ?jd ?iy ?je ?iz ?mj ?kl ?lE ?km ?kn
  (case sv=>k_is)
  (case D0|D1|D2|D3|D4|D5|D6|D7|D8|D9|Mp|Mq|Mr|Ms|Mt|Mu|Mv|Mw|Mx|My|Mz|MA|MB|MC|MD|ME|MF|MG|MH|MI=>exact Z.Jb (by k_is) (by k_is) (by k_is) (by k_is))
  (case sA|sC|sD|sE|sF=>exact Z.HN (by k_is) (by k_is) (by k_is) (by k_is) (by k_is))
  (case sG|sH|sI|sJ|sL|sM|gN|gO|fP|gE|kh|nQ|nR|nS=>k_is)
  (case ki|nU|nV|nW=>k_exc)
  (case Fy|wu|Ac|wx|Fz|lD|FA|Ad|FC|FD|FE|sN|FF=>delta Z.nO; k_is)
  (case jc|kj|jd|iy|je|iz|mj|kl|lE|km|kn=>exact Z.int_mk (by k_is) ⟨_,rfl⟩)
